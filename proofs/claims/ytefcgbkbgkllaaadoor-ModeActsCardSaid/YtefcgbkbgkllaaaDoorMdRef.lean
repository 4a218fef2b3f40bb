/- The document's answers for modes: Right, Parse, Both. -/
import Derived.Test.YtefcgbkbgkllaaaDoorMdSay
import Derived.BigQuiet
namespace Go.Proofs.YtefcgbkbgkllaaaDoor
open Go Go.RowKit
set_option maxRecDepth 100000
set_option maxHeartbeats 4000000

theorem mrRight_any (w : World) (m : Int) : Calls Tryd.prog 9 #[.int .i64 m] w fun e w' => e = .returned (.bool (isMask m)) ∧ w' = w := by
  obtain ⟨p, hp⟩ : ∃ p, p = isMask m := ⟨_, rfl⟩
  rw [← hp]
  by_cases h0 : 0 ≤ m
  · by_cases h1 : m < 32
    · have h2 : (m / 4 % 2 == 0) = p := by
        rw [hp, Bool.eq_iff_iff, isMask_iff, beq_iff_eq]
        omega
      have h3 : decide (m / 4 % 2 = 0) = p := h2
      clear hp
      cases p
      all_goals
        go_enter Tryd.func9, Tryd.ntmps9
        go_wp2
        go_ret
        exact ⟨rfl, rfl⟩
    · obtain rfl : p = false := by
        rw [hp, Bool.eq_false_iff]
        intro h
        rw [isMask_iff] at h
        omega
      clear hp
      go_enter Tryd.func9, Tryd.ntmps9
      go_wp2
      go_ret
      exact ⟨rfl, rfl⟩
  · obtain rfl : p = false := by
      rw [hp, Bool.eq_false_iff]
      intro h
      rw [isMask_iff] at h
      omega
    clear hp
    go_enter Tryd.func9, Tryd.ntmps9
    go_wp2
    go_ret
    exact ⟨rfl, rfl⟩

theorem mrParse_two (w : World) (s : List UInt8) (x y : UInt8) (hx : s[0]? = some x) (hy : s[1]? = some y) (hl : s.length = 2) :
    Calls Tryd.prog 8 #[.string ⟨s.toArray⟩] w fun e w' => e = .returned (.tuple #[.int .i64 (saysM [x, y]).1, .bool (saysM [x, y]).2.1, .int .i64 ((saysM [x, y]).2.2 : Int)]) ∧ w' = w := by
  have hz : (ByteArray.mk s.toArray).size = 2 := hl
  have g0 := str_get hx
  have g1 := str_get hy
  obtain ⟨X, hX⟩ : ∃ X, X = saysM [x, y] := ⟨_, rfl⟩
  rw [← hX]
  rw [saysM] at hX
  clear hl hx hy
  by_cases h1 : x.toNat = 1
  · rw [if_pos h1] at hX
    have e1 : ((x.toNat : Int) == 1) = true := by simp [h1]
    have hyl := y.toNat_lt
    have HR := Lib.hid (fun W => mrRight_any W (clr y.toNat))
    have hin := clr_in y.toNat hyl
    obtain ⟨p, hp⟩ : ∃ p, p = isMask (clr y.toNat) := ⟨_, rfl⟩
    rw [← hp] at HR hX
    have hc : clr y.toNat = if y.toNat / 4 % 2 = 1 then (y.toNat : Int) - 4 else y.toNat := rfl
    have ha : ackB y.toNat = decide (y.toNat / 4 % 2 = 1) := rfl
    clear hp
    by_cases h2 : y.toNat / 4 % 2 = 1
    · rw [if_pos h2] at hc
      rw [ha, decide_eq_true h2, hc] at hX
      rw [hc] at HR
      have e2 : ((y.toNat : Int) / 4 % 2 == 1) = true := by simp; omega
      have e3 : (y.toNat : Int) / 4 % 2 = 1 := by omega
      have h4 : 4 ≤ y.toNat := by omega
      clear hc ha h2 h1 hin
      have hyl : y.toNat ≤ 255 := by omega
      cases p
      all_goals
        subst hX
        go_enter Tryd.func8, Tryd.ntmps8
        go_wp2_with (go_at_call 9; (with_reducible refine (HR.out _).mono ?_); rintro e w1 ⟨rfl, e1⟩; subst w1)
        go_ret3
        exact ⟨rfl, rfl⟩
    · rw [if_neg h2] at hc
      rw [ha, decide_eq_false h2, hc] at hX
      rw [hc] at HR
      have e2 : ((y.toNat : Int) / 4 % 2 == 1) = false := by simp; omega
      have e3 : (y.toNat : Int) / 4 % 2 = 0 := by omega
      clear hc ha h2 h1 hin
      have hyl : y.toNat ≤ 255 := by omega
      cases p
      all_goals
        subst hX
        go_enter Tryd.func8, Tryd.ntmps8
        go_wp2_with (go_at_call 9; (with_reducible refine (HR.out _).mono ?_); rintro e w1 ⟨rfl, e1⟩; subst w1)
        go_ret3
        exact ⟨rfl, rfl⟩
  · rw [if_neg h1] at hX
    have e1 : ((x.toNat : Int) == 1) = false := by simp; omega
    have e2 : ((x.toNat : Int) != 1) = true := by simp; omega
    subst hX
    go_enter Tryd.func8, Tryd.ntmps8
    go_wp2
    go_ret3
    exact ⟨rfl, rfl⟩
theorem mrParse_any (w : World) (s : List UInt8) (hl : s.length ≤ 1048576) :
    Calls Tryd.prog 8 #[.string ⟨s.toArray⟩] w fun e w' => e = .returned (.tuple #[.int .i64 (saysM s).1, .bool (saysM s).2.1, .int .i64 ((saysM s).2.2 : Int)]) ∧ w' = w := by
  obtain ⟨n, hn⟩ : ∃ n, n = s.length := ⟨_, rfl⟩
  have hz : (ByteArray.mk s.toArray).size = n := by rw [hn]; rfl
  rw [← hn] at hl
  rcases (by omega : n < 2 ∨ n = 2 ∨ 2 < n) with h | h | h
  · have hX : saysM s = (0, false, 3) := by
      match s, hn with
      | [], _ => rfl
      | [_], _ => rfl
      | _ :: _ :: _, hn => simp at hn; omega
    rw [hX]
    have hd : decide ((n : Int) < 2) = true := by simp; omega
    clear hn hX
    go_enter Tryd.func8, Tryd.ntmps8
    go_wp2
    go_ret3
    exact ⟨rfl, rfl⟩
  · subst h
    match s, hn with
    | [x, y], _ => exact mrParse_two w [x, y] x y rfl rfl rfl
  · have hX : saysM s = (0, false, 4) := by
      match s, hn with
      | [], hn => simp at hn; omega
      | [_], hn => simp at hn; omega
      | [_, _], hn => simp at hn; omega
      | _ :: _ :: _ :: _, hn => rfl
    rw [hX]
    have hd : decide ((n : Int) < 2) = false := by simp; omega
    have hd2 : decide ((2 : Int) < (n : Int)) = true := by simp; omega
    clear hn hX
    go_enter Tryd.func8, Tryd.ntmps8
    go_wp2
    go_ret3
    exact ⟨rfl, rfl⟩
end Go.Proofs.YtefcgbkbgkllaaaDoor
