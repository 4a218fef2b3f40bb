/- Package status: Line. -/
import Derived.Test.YthbmhoeaimdjmaaDoorSuOf
import Derived.Test.YthbmhoeaimdjmaaDoorBuilder
import Derived.Test.YthbmhoeaimdjmaaDoorCodesNm
namespace Go.Proofs.YthbmhoeaimdjmaaDoor
open Go Go.RowKit
set_option maxRecDepth 100000
set_option maxHeartbeats 4000000

/-- What the calls of package codes read. -/
structure CdW (W : World) : Prop where
  cmd : TextsAt W 16 cmdWords
  opt : TextsAt W 17 optWords
  pow : Pow W
theorem CdW.only {W W' : World} (h : CdW W) (ho : Only (fun _ => False) W W') : CdW W' := ⟨h.cmd.only ho, h.opt.only ho, h.pow.only ho⟩

theorem orMark_any (w : World) (s : List UInt8) : Calls Tryd.prog 28 #[.string ⟨s.toArray⟩] w fun e w' => e = .returned (.string ⟨(orM s).toArray⟩) ∧ w' = w := by
  cases s with
  | nil =>
    go_enter Tryd.func28, Tryd.ntmps28
    go_wp2
    go_ret
    exact ⟨rfl, rfl⟩
  | cons x s =>
    have e : orM (x :: s) = x :: s := by unfold orM; rw [if_neg (by simp)]
    rw [e]
    have hb : (x :: s == []) = false := rfl
    clear e
    go_enter Tryd.func28, Tryd.ntmps28
    go_wp2
    go_ret
    exact ⟨rfl, rfl⟩

theorem suLine_any {w : World} (hC : CdW w) {A : Option Addr} {n c : Nat} {l : List En} (h : EnAt w A n l) (hn : n ≤ 1000) :
    Calls Tryd.prog 10 #[.slice A n c] w fun e w' => e = .returned (.string ⟨(lineAt 0 l).toArray⟩) ∧ Only (fun _ => False) w w' := by
  have H := Lib.hid h
  have HC := Lib.hid hC
  have hT := lineAt_short l 0
  rw [h.1] at hT
  have hT2 : (lineAt 0 l).length ≤ 107000 := by omega
  clear h hC hT
  obtain ⟨T, hTe⟩ : ∃ T, T = lineAt 0 l := ⟨_, rfl⟩
  rw [← hTe] at hT2 ⊢
  have HT := Lib.hid hT2
  have HTe := Lib.hid hTe
  clear hT2 hTe
  have HS0 := Lib.hid (SbAt.new w)
  have HO0 : Hid (Only (fun _ => False) w (w.alloc (.cells #[.pointer none, .slice none 0 0] 78))) := (Only.refl _ _).alloc _
  go_enter Tryd.func10, Tryd.ntmps10
  go_wp2
  generalize w.alloc (.cells #[.pointer none, .slice none 0 0] 78) = w0 at *
  obtain ⟨b, hb⟩ : ∃ b, b = w.heap.size := ⟨_, rfl⟩
  rw [← hb] at HS0 ⊢
  have HBw := Lib.hid hb
  clear hb
  go_loopw [8] (fun i W => ∃ k : Nat, k ≤ n ∧ i = .int .i64 (k : Int) ∧ Hid (∃ acc, SbAt W b b acc ∧ acc ++ lineAt k (l.drop k) = T ∧ Only (fun _ => False) w W)) (fun i _ => n - (intOf i).toNat)
  case atStart => exact ⟨0, Nat.zero_le _, rfl, [], HS0.out, by rw [HTe.out]; rfl, HO0.out⟩
  case round =>
    clear HS0 HO0
    obtain ⟨k, hk, rfl, hrel⟩ := hrel
    obtain ⟨acc, hs, hcat, hon⟩ := hrel.out
    have HS := Lib.hid hs
    have HOn := Lib.hid hon
    have HCat := Lib.hid hcat
    clear hrel hs hcat hon
    by_cases hlt : k < n
    · have hlt2 : (k : Int) < (n : Int) := by omega
      obtain ⟨x, hx⟩ : ∃ x, l[k]? = some x := ⟨_, List.getElem?_eq_getElem (by rw [H.out.1]; omega)⟩
      obtain ⟨g, off, rfl, hgl, hrg⟩ := (H.out.same HOn.out).2 k x hx
      have hd0 : l.drop k = x :: l.drop (k + 1) := by
        obtain ⟨h1, e⟩ := List.getElem?_eq_some_iff.1 hx
        rw [List.drop_eq_getElem_cons h1, e]
      have hc := HCat.out
      rw [hd0, lineAt] at hc
      have HRg := Lib.hid hrg
      obtain ⟨xv, xo⟩ := x
      obtain ⟨wa, hwa⟩ : ∃ a, a = wordOf xv := ⟨_, rfl⟩
      obtain ⟨wb, hwb⟩ : ∃ a, a = nameOf xo := ⟨_, rfl⟩
      obtain ⟨R, hR⟩ : ∃ R, R = lineAt (k + 1) (l.drop (k + 1)) := ⟨_, rfl⟩
      simp only at hc
      rw [← hwa, ← hwb, ← hR] at hc
      have HWd : Hid (∀ W, Only (fun _ => False) w W → Calls Tryd.prog 29 #[.int .i64 xv] W fun e w' => e = .returned (.string ⟨wa.toArray⟩) ∧ w' = W) := fun W ho => by
        rw [hwa]; exact word_any (HC.out.only ho).cmd xv
      have HNm : Hid (∀ W, Only (fun _ => False) w W → Calls Tryd.prog 30 #[.int .i64 xo] W fun e w' => e = .returned (.string ⟨wb.toArray⟩) ∧ Only (fun _ => False) W w') := fun W ho => by
        rw [hwb]; exact name_all (HC.out.only ho).opt (HC.out.only ho).pow xo
      have HR := Lib.hid hR
      have hlen := congrArg List.length hc
      simp only [List.length_append, List.length_cons, List.length_nil] at hlen
      have htl := HT.out
      have HOa := Lib.hid (orMark_any (s := wa))
      have HOb := Lib.hid (orMark_any (s := wb))
      obtain ⟨ma, hma⟩ : ∃ a, a = orM wa := ⟨_, rfl⟩
      obtain ⟨mb, hmb⟩ : ∃ a, a = orM wb := ⟨_, rfl⟩
      rw [← hma, ← hmb] at hc hlen
      rw [← hma] at HOa
      rw [← hmb] at HOb
      have HCt : Hid ((acc ++ sepAt k) ++ (ma ++ ([32] ++ (mb ++ R))) = T) := by
        show (acc ++ sepAt k) ++ (ma ++ ([32] ++ (mb ++ R))) = T
        rw [List.append_assoc]
        exact hc
      have HEn : Hid (Blk (wr.alloc (.cells #[.int .i64 xv, .int .i64 xo] 70)) wr.heap.size 70 [.int .i64 xv, .int .i64 xo]) := Blk.new _ _ [.int .i64 xv, .int .i64 xo]
      have HOe : Hid (Only (fun _ => False) w (wr.alloc (.cells #[.int .i64 xv, .int .i64 xo] 70))) := HOn.out.alloc _
      have HSe : Hid (SbAt (wr.alloc (.cells #[.int .i64 xv, .int .i64 xo] 70)) b b acc) := HS.out.same ((Only.refl _ _).alloc _)
      have hbN : wr.heap.size ≠ b := by have := HS.out; rcases this with h | h <;> (have := h.lt; omega)
      have HbN := Lib.hid hbN
      have HLn := Lib.hid hlen
      have hT3 : T.length ≤ 107000 := htl
      have HT3 := Lib.hid hT3
      clear hx hrg hd0 hc hwa hwb hR hlen htl hma hmb hbN hT3 HCat HS HOn
      by_cases hk0 : k = 0
      focus
        have hkd : decide ((0 : Int) < (k : Int)) = false := by simp; omega
        have hkn : ¬ 0 < k := by omega
        have hsep : acc ++ sepAt k = acc := by rw [sepAt, if_pos hk0, List.append_nil]
        rw [hsep] at HCt
        clear hk0 hsep
        go_wp2_with (first
          | ((with_reducible show wpList _ _ _ (⟨some 12, _, _, _, _, _⟩ :: _) _ _); refine wpList_load_mid rfl 70 _ rfl g (off + k * 2) rfl [.int .i64 xv, .int .i64 xo] _ HRg.out Tryd.underlying70 rfl size_en ?_)
          | fail)
        obtain ⟨acc2, hacc2⟩ : ∃ acc2, acc2 = acc := ⟨_, rfl⟩
        obtain ⟨w4, hw4⟩ : ∃ w4, w4 = wr.alloc (.cells #[.int .i64 xv, .int .i64 xo] 70) := ⟨_, rfl⟩
        rw [← hw4] at HEn HOe HSe ⊢
        rw [← hacc2] at HCt HSe
        have HS4 := HSe
        have HO4 := HOe
        have HE4 := HEn
        clear HSe HOe HEn hw4 hacc2 HRg hkd hkn
      rotate_left
      focus
        have hkd : decide ((0 : Int) < (k : Int)) = true := by simp; omega
        have hkn : 0 < k := by omega
        have hsep : sepAt k = [44, 32] := by rw [sepAt, if_neg hk0]
        rw [hsep] at HCt
        have hl2 : acc.length + 2 ≤ 107000 := by
          have h1 := congrArg List.length HCt.out
          simp only [List.length_append, List.length_cons, List.length_nil] at h1
          have := HT3.out
          omega
        clear hk0 hsep
        go_wp2_with (first
          | ((with_reducible show wpList _ _ _ (⟨some 12, _, _, _, _, _⟩ :: _) _ _); refine wpList_load_mid rfl 70 _ rfl g (off + k * 2) rfl [.int .i64 xv, .int .i64 xo] _ HRg.out Tryd.underlying70 rfl size_en ?_)
          | ((with_reducible show Calls _ _ #[_, .string ⟨#[44, 32]⟩] _ _); refine (sbWrite (s := [44, 32]) HSe.out (by simp; omega) (by have := HOe.out.size; have := HBw.out; omega)).mono ?_; rintro e w4 ⟨rfl, hs4, ho4, hk4⟩; have HE4 := Lib.hid (hk4 _ _ _ HEn.out (by decide) HbN.out); have HS4 := Lib.hid hs4; have HO4 : Hid (Only (fun _ => False) w w4) := HOe.out.trans ho4 (fun i hi => .inr (by have := HBw.out; omega)); have e0 := HE4.out.cell 0; simp only [List.getElem?_cons_zero] at e0; clear hs4 ho4 hk4)
          | fail)
        clear e0
        generalize acc ++ [44, 32] = acc2 at HCt HS4
        clear HSe HOe HEn HRg hkd hl2 hkn
      all_goals
        have e0 := HE4.out.cell 0
        have e1 := HE4.out.cell 1
        simp only [List.getElem?_cons_zero, List.getElem?_cons_succ] at e0 e1
        have hln := congrArg List.length HCt.out
        simp only [List.length_append, List.length_cons, List.length_nil] at hln
        have ht3 := HT3.out
        generalize wr.heap.size = N at *
        refine (HWd.out _ HO4.out).mono ?_
        rintro e w5 ⟨rfl, e5⟩
        subst w5
        go_wp2_with (first
          | ((with_reducible show Calls _ _ #[.string ⟨wa.toArray⟩] _ _); refine (HOa.out _).mono ?_; rintro e w5 ⟨rfl, e5⟩; subst w5)
          | ((with_reducible show Calls _ _ #[.string ⟨wb.toArray⟩] _ _); refine (HOb.out _).mono ?_; rintro e w9 ⟨rfl, e9⟩; subst w9)
          | ((with_reducible show Calls _ _ #[_, .string ⟨ma.toArray⟩] _ _); refine (sbWrite (s := ma) HS4.out (by omega) (by have := HO4.out.size; have := HBw.out; omega)).mono ?_; rintro e w6 ⟨rfl, hs6, ho6, hk6⟩; have HE6 := Lib.hid (hk6 _ _ _ HE4.out (by decide) HbN.out); have HS6 := Lib.hid hs6; have HO6 : Hid (Only (fun _ => False) w w6) := HO4.out.trans ho6 (fun i hi => .inr (by have := HBw.out; omega)); clear hs6 ho6 hk6)
          | ((with_reducible show Calls _ _ #[_, .string ⟨#[32]⟩] _ _); refine (sbWrite (s := [32]) HS6.out (by rw [List.length_append]; simp; omega) (by have := HO6.out.size; have := HBw.out; omega)).mono ?_; rintro e w7 ⟨rfl, hs7, ho7, hk7⟩; have HE7 := Lib.hid (hk7 _ _ _ HE6.out (by decide) HbN.out); have HS7 := Lib.hid hs7; have HO7 : Hid (Only (fun _ => False) w w7) := HO6.out.trans ho7 (fun i hi => .inr (by have := HBw.out; omega)); have f1 := HE7.out.cell 1; simp only [List.getElem?_cons_zero, List.getElem?_cons_succ] at f1; clear hs7 ho7 hk7)
          | (go_at_call 30; refine (HNm.out _ HO7.out).mono ?_; rintro e w8 ⟨rfl, ho8⟩; have HS8 := Lib.hid (HS7.out.same ho8); have HO8 : Hid (Only (fun _ => False) w w8) := HO7.out.trans ho8 (fun _ h => h.elim); clear ho8)
          | ((with_reducible show Calls _ _ #[_, .string ⟨mb.toArray⟩] _ _); refine (sbWrite (s := mb) HS8.out (by rw [List.length_append, List.length_append]; simp; omega) (by have := HO8.out.size; have := HBw.out; omega)).mono ?_; rintro e w10 ⟨rfl, hs10, ho10, hk10⟩; have HS10 := Lib.hid hs10; have HO10 : Hid (Only (fun _ => False) w w10) := HO8.out.trans ho10 (fun i hi => .inr (by have := HBw.out; omega)); clear hs10 ho10 hk10)
          | fail)
        go_roundw
        case rel => exact ⟨k + 1, by omega, by go_num, _, HS10.out, by rw [← HR.out, ← HCt.out]; simp [List.append_assoc], HO10.out⟩
        case measure => simp [intOf]; omega
    · obtain rfl : k = n := by omega
      have hT5 : Hid (acc = T) := by
        show acc = T
        have := HCat.out
        rw [List.drop_eq_nil_of_le (by rw [H.out.1]; exact Nat.le_refl _), lineAt, List.append_nil] at this
        exact this
      go_wp2_with (go_at_call 31; refine (sbString HS.out (by have := HOn.out.size; have := HBw.out; omega)).mono ?_; rintro e w8 ⟨rfl, ho8⟩)
      go_ret
      exact ⟨by rw [hT5.out]; rfl, ho8 w HOn.out (by have := HBw.out; omega)⟩
end Go.Proofs.YthbmhoeaimdjmaaDoor
