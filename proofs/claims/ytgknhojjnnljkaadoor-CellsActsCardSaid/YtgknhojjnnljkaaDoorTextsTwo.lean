
/- Rows of strings: two of them compared, a copy of one. -/
import Derived.Test.YtgknhojjnnljkaaDoorTexts
import Derived.Test.YtgknhojjnnljkaaDoorAlloc
import Derived.Lib.SliceRun
namespace Go.Proofs.YtgknhojjnnljkaaDoor
open Go Go.RowKit
set_option maxRecDepth 100000
set_option maxHeartbeats 4000000

theorem sameTexts_any {w : World} {A B : Option Addr} {n m ca cb : Nat} {xs ys : List (List UInt8)} (h : TSrc w A n xs) (h' : TSrc w B m ys) (hn : n ≤ 9223372036854775807) :
    Calls Tryd.prog 18 #[.slice A n ca, .slice B m cb] w fun e w' => e = .returned (.bool (decide (xs = ys))) ∧ w' = w := by
  obtain ⟨F, hF⟩ : ∃ F, F = decide (xs = ys) := ⟨_, rfl⟩
  have HF := Lib.hid hF
  rw [← hF]
  clear hF
  have H1 := Lib.hid h
  have H2 := Lib.hid h'
  clear h h'
  by_cases hm : n = m
  · subst hm
    go_enter Tryd.func18, Tryd.ntmps18
    go_wp2
    go_loop [14] (fun i => ∃ k : Nat, k ≤ n ∧ i = .int .i64 (k : Int) ∧ Hid (xs.take k = ys.take k)) (fun i => n - (intOf i).toNat)
    case atStart => exact ⟨0, Nat.zero_le _, rfl, by simp [Hid]⟩
    case round =>
      obtain ⟨k, hk, rfl, HD⟩ := hrel
      by_cases hlt : k < n
      · obtain ⟨ad, x, rfl, hx, hc⟩ := H1.out.get hlt
        obtain ⟨bd, y, rfl, hy, hd⟩ := H2.out.get hlt
        have HX := Lib.hid hx
        have HY := Lib.hid hy
        clear hx hy
        by_cases he : x = y
        · subst he
          have hxx : (x == x) = true := by simp
          go_wp2
          go_round
          case rel => exact ⟨k + 1, by omega, by go_num, by rw [Hid, take_snoc HX.out, take_snoc HY.out, HD.out]⟩
          case measure => simp [intOf]; omega
        · have hxy : (x == y) = false := by simp [he]
          go_wp2
          go_ret
          refine ⟨?_, rfl⟩
          rw [HF.out, decide_eq_false]
          · rfl
          · intro h
            subst h
            have h1 := HX.out
            rw [HY.out] at h1
            injection h1 with h1
            exact he h1.symm
      · obtain rfl : k = n := by omega
        go_wp2
        go_ret
        refine ⟨?_, rfl⟩
        have hd := HD.out
        rw [List.take_of_length_le (by rw [H1.out.1]; exact Nat.le_refl _), List.take_of_length_le (by rw [H2.out.1]; exact Nat.le_refl _)] at hd
        rw [HF.out, decide_eq_true hd]
        rfl
  · have hd : (n == m) = false := by simp; omega
    have hd2 : (n != m) = true := by simp; omega
    go_enter Tryd.func18, Tryd.ntmps18
    go_wp2
    go_ret
    refine ⟨?_, rfl⟩
    rw [HF.out, decide_eq_false]
    · rfl
    · intro h
      subst h
      exact hm (H1.out.1.symm.trans H2.out.1)

end Go.Proofs.YtgknhojjnnljkaaDoor
