/- Package codes: Word, Name. -/
import Derived.Test.YthbmhoeaimdjmaaDoorItoa
import Derived.Test.YthbmhoeaimdjmaaDoorCodesSay
namespace Go.Proofs.YthbmhoeaimdjmaaDoor
open Go Go.RowKit

theorem word_any {W : World} (h : TextsAt W 16 cmdWords) (c : Int) :
    Calls Tryd.prog 29 #[.int .i64 c] W fun e w' => e = .returned (.string ⟨(wordOf c).toArray⟩) ∧ w' = W := by
  by_cases hc : 240 ≤ c ∧ c ≤ 255
  · obtain ⟨i, rfl⟩ : ∃ i : Nat, c = 240 + (i : Int) := ⟨(c - 240).toNat, by omega⟩
    have hi : i < 16 := by omega
    obtain ⟨s, hs⟩ : ∃ s, cmdWords[i]? = some s := ⟨_, List.getElem?_eq_getElem (by exact hi)⟩
    have hcell := h i s hs
    have ew : wordOf (240 + (i : Int)) = s := by
      unfold wordOf
      rw [if_pos hc, show (240 + (i : Int) - 240).toNat = i by omega]
      simp [List.getD, hs]
    rw [ew]
    have e1 : IntKind.i64.wrap (240 + (i : Int) - 240) = (i : Int) := by rw [IntWalk.i64_in _ (by omega)]; omega
    have HS := Lib.hid hs
    clear h hs ew
    go_enter Tryd.func29, Tryd.ntmps29
    go_wp2
    go_ret
    exact ⟨rfl, rfl⟩
  · have ew : wordOf c = [] := by unfold wordOf; rw [if_neg hc]
    rw [ew]
    clear ew
    by_cases h1 : c < 240
    · go_enter Tryd.func29, Tryd.ntmps29
      go_wp2
      go_ret
      exact ⟨rfl, rfl⟩
    · have h2 : 255 < c := by omega
      go_enter Tryd.func29, Tryd.ntmps29
      go_wp2
      go_ret
      exact ⟨rfl, rfl⟩

theorem cdOption_any (W : World) (c : Int) : Calls Tryd.prog 55 #[.int .i64 c] W fun e w' => e = .returned (.bool (decide (0 ≤ c ∧ c ≤ 255))) ∧ w' = W := by
  by_cases h1 : c < 0
  · go_enter Tryd.func55, Tryd.ntmps55
    go_wp2
    go_ret
    refine ⟨congrArg (fun b => Ending.returned (Value.bool b)) ?_, rfl⟩
    first | (simp; done) | (simp; omega)
  · go_enter Tryd.func55, Tryd.ntmps55
    go_wp2
    go_ret
    refine ⟨congrArg (fun b => Ending.returned (Value.bool b)) ?_, rfl⟩
    first | (simp; done) | (simp; omega)

theorem name_all {W : World} (h : TextsAt W 17 optWords) (hp : Pow W) (c : Int) :
    Calls Tryd.prog 30 #[.int .i64 c] W fun e w' => e = .returned (.string ⟨(nameOf c).toArray⟩) ∧ Only (fun _ => False) W w' := by
  by_cases hc : 0 ≤ c ∧ c ≤ 255
  · have hb : decide (0 ≤ c ∧ c ≤ 255) = true := by simpa using hc
    have hi := cdOption_any W c
    rw [hb] at hi
    obtain ⟨n, rfl⟩ : ∃ n : Nat, c = n := ⟨c.toNat, by omega⟩
    have hn : n ≤ 255 := by omega
    have en : nameOf (n : Int) = nameAt n := by unfold nameOf; rw [if_pos hc, Int.toNat_natCast]
    rw [en]
    have HP := Lib.hid hp
    have HI := Lib.hid hi
    clear hb en hp hi hc
    by_cases hlt : n < 35
    · obtain ⟨x, hx⟩ : ∃ x, optWords[n]? = some x := ⟨_, List.getElem?_eq_getElem (by exact hlt)⟩
      have hcell := h n x hx
      have ex : optWords.getD n [] = x := by simp [List.getD, hx]
      have HX := Lib.hid ex
      have H := Lib.hid h
      clear hx ex h
      cases x with
      | nil =>
        have ea : nameAt n = Lib.itoa n := by unfold nameAt; rw [HX.out, if_pos rfl]
        rw [ea]
        clear ea
        go_enter Tryd.func30, Tryd.ntmps30
        go_wp2_with (first
          | (go_at_call 55; refine HI.out.mono ?_; rintro e w' ⟨rfl, rfl⟩)
          | (go_at_call 56; refine (itoa_any HP.out _ (by omega) (by omega)).mono ?_; rintro e w' ⟨rfl, ho⟩))
        go_ret
        exact ⟨rfl, ho⟩
      | cons y x =>
        have ea : nameAt n = y :: x := by unfold nameAt; rw [HX.out, if_neg (by simp)]
        rw [ea]
        clear ea
        go_enter Tryd.func30, Tryd.ntmps30
        go_wp2_with (first
          | (go_at_call 55; refine HI.out.mono ?_; rintro e w' ⟨rfl, rfl⟩))
        go_ret
        exact ⟨rfl, Only.refl _ _⟩
    · have ea : nameAt n = Lib.itoa n := by
        unfold nameAt
        rw [show optWords.getD n [] = [] by simp [List.getD, List.getElem?_eq_none (show optWords.length ≤ n by show 35 ≤ n; omega)], if_pos rfl]
      rw [ea]
      clear ea h
      go_enter Tryd.func30, Tryd.ntmps30
      go_wp2_with (first
        | (go_at_call 55; refine HI.out.mono ?_; rintro e w' ⟨rfl, rfl⟩)
        | (go_at_call 56; refine (itoa_any HP.out _ (by omega) (by omega)).mono ?_; rintro e w' ⟨rfl, ho⟩))
      go_ret
      exact ⟨rfl, ho⟩
  · have hb : decide (0 ≤ c ∧ c ≤ 255) = false := by simpa using hc
    have hi := cdOption_any W c
    rw [hb] at hi
    have en : nameOf c = [] := by unfold nameOf; rw [if_neg hc]
    rw [en]
    clear h hp hb en
    go_enter Tryd.func30, Tryd.ntmps30
    go_wp2_with (go_at_call 55; refine hi.mono ?_; rintro e w' ⟨rfl, rfl⟩)
    go_ret
    exact ⟨rfl, Only.refl _ _⟩
theorem name_any {W : World} (h : TextsAt W 17 optWords) (hp : Pow W) (c : Int) (_ : -9223372036854775808 ≤ c) (_ : c ≤ 9223372036854775807) :
    Calls Tryd.prog 30 #[.int .i64 c] W fun e w' => e = .returned (.string ⟨(nameOf c).toArray⟩) ∧ Only (fun _ => False) W w' := name_all h hp c
end Go.Proofs.YthbmhoeaimdjmaaDoor
