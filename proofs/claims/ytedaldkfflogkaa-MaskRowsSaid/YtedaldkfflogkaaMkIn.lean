/- The document's In: is a byte in a row? -/
import Derived.Test.YtedaldkfflogkaaMkSay
namespace Go.Proofs.Ytedaldkfflogkaa
open Go Go.RowKit
set_option maxRecDepth 100000
set_option maxHeartbeats 4000000

theorem rin_any (w : World) {m : List UInt8} (hl : m.length = 32) (c : Nat) (hc : c < 256) : Calls Try.prog 8 #[.string ⟨m.toArray⟩, .int .i64 (c : Int)] w fun e w' => e = .returned (.bool (mkHas m c)) ∧ w = w' := by
  obtain ⟨i, hi⟩ : ∃ i, i = c / 8 := ⟨_, rfl⟩
  obtain ⟨r, hr⟩ : ∃ r, r = c % 8 := ⟨_, rfl⟩
  have hi32 : i < 32 := by omega
  obtain ⟨x, hx⟩ : ∃ x, m[i]? = some x := ⟨_, List.getElem?_eq_getElem (by omega)⟩
  have hg := str_get hx
  have hsz : (ByteArray.mk m.toArray).size = 32 := by rw [← hl]; rfl
  have q1 : (c : Int) / 8 = (i : Int) := by omega
  have q2 : (c : Int).tdiv 8 = (i : Int) := by rw [Int.tdiv_eq_ediv_of_nonneg (by omega)]; omega
  have q3 : (c : Int) % 8 = (r : Int) := by omega
  have q4 : (c : Int).tmod 8 = (r : Int) := by rw [Int.tmod_eq_emod_of_nonneg (by omega)]; omega
  have hb : mkHas m c = decide (x.toNat / 2 ^ (7 - r) % 2 = 1) := by rw [mkHas_div, ← hi, ← hr, mkAt_of hx]
  have hr8 : r < 8 := by omega
  have hxl := x.toNat_lt
  rw [hb]
  obtain ⟨t, ht⟩ : ∃ t, t = 7 - r := ⟨_, rfl⟩
  have q5 : (7 : Int) - (r : Int) = (t : Int) := by omega
  rw [← ht]
  have ht7 : t ≤ 7 := by omega
  obtain ⟨b, hb2⟩ : ∃ b, b = decide (x.toNat / 2 ^ t % 2 = 1) := ⟨_, rfl⟩
  rw [← hb2]
  have HB := Lib.hid hb2
  obtain ⟨xn, hxn⟩ : ∃ xn, xn = x.toNat := ⟨_, rfl⟩
  have hi2 : (0 : Int) ≤ (i : Int) ∧ (i : Int) < 32 := by omega
  have HXN := Lib.hid hxn
  clear hx hb hb2 hi hr ht hxn
  go_enter Try.func8, Try.ntmps8
  go_wp2
  go_loop [5, 6] (fun v u => ∃ (k y : Nat), k ≤ t ∧ y ≤ 255 ∧ v = .int .i64 (y : Int) ∧ u = .int .i64 (k : Int) ∧ Hid (y = xn / 2 ^ k)) (fun _ u => t - (intOf u).toNat)
  case atStart => exact ⟨0, x.toNat, Nat.zero_le _, by omega, rfl, rfl, by rw [HXN.out]; simp [Hid]⟩
  case round =>
    obtain ⟨k, y, hk, hy, rfl, rfl, HD⟩ := hrel
    by_cases hlt : k < t
    · obtain ⟨z, hz⟩ : ∃ z, z = y / 2 := ⟨_, rfl⟩
      have e1 : (y : Int) / 2 = (z : Int) := by omega
      have e2 : (y : Int).tdiv 2 = (z : Int) := by rw [Int.tdiv_eq_ediv_of_nonneg (by omega)]; omega
      have HZ := Lib.hid hz
      have hz8 : z ≤ 255 := by omega
      clear hz
      go_wp2
      go_round
      case rel => exact ⟨k + 1, z, by omega, hz8, rfl, by go_num, by rw [HZ.out, HD.out, Hid, Nat.pow_succ, Nat.div_div_eq_div_mul]⟩
      case measure => simp [intOf]; omega
    · obtain rfl : k = t := by omega
      obtain ⟨s, hs⟩ : ∃ s, s = y % 2 := ⟨_, rfl⟩
      have e1 : (y : Int) % 2 = (s : Int) := by omega
      have e2 : (y : Int).tmod 2 = (s : Int) := by rw [Int.tmod_eq_emod_of_nonneg (by omega)]; omega
      have e3 : ((s : Int) == 1) = b := by
        rw [HB.out, ← HXN.out, ← HD.out, ← hs, Bool.eq_iff_iff]
        simp
        omega
      clear hs
      go_wp2
      go_ret
      exact ⟨rfl, rfl⟩
end Go.Proofs.Ytedaldkfflogkaa
