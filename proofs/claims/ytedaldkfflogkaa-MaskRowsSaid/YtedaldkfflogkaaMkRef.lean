/- The document's Cut: a row without noughts at its end. -/
import Derived.Test.YtedaldkfflogkaaMkSay
namespace Go.Proofs.Ytedaldkfflogkaa
open Go Go.RowKit
set_option maxRecDepth 100000
set_option maxHeartbeats 4000000

theorem rcut_any (w : World) (s : List UInt8) (hn : s.length ≤ 1048576) : Calls Try.prog 11 #[.string ⟨s.toArray⟩] w fun e w' => e = .returned (.string ⟨(mkCut s).toArray⟩) ∧ w = w' := by
  obtain ⟨n, hl⟩ : ∃ n, n = s.length := ⟨_, rfl⟩
  have HL := Lib.hid hl
  rw [← hl] at hn
  clear hl
  go_enter Try.func11, Try.ntmps11
  go_wp2
  go_loop [0] (fun v => ∃ (k : Nat) (T : List UInt8), k ≤ n ∧ v = .string ⟨T.toArray⟩ ∧ Hid (T = s.take k ∧ cutLen s k = cutLen s n)) (fun v => (match v with | .string b => b.size | _ => 0))
  case atStart => exact ⟨n, s, Nat.le_refl _, rfl, by rw [HL.out, List.take_length], rfl⟩
  case round =>
    obtain ⟨k, T, hk, rfl, HD⟩ := hrel
    have hTl : T.length = k := by rw [HD.out.1, List.length_take, ← HL.out]; omega
    have hsz : (ByteArray.mk T.toArray).size = k := by rw [← hTl]; rfl
    have out : Hid (cutLen s k = k → mkCut s = T) := fun h => by
      rw [mkCut, ← HL.out, ← HD.out.2, h, HD.out.1]
    cases k with
    | zero =>
      go_wp2
      go_ret
      exact ⟨by rw [out.out rfl]; rfl, rfl⟩
    | succ k =>
      obtain ⟨x, hx⟩ : ∃ x, T[k]? = some x := ⟨_, List.getElem?_eq_getElem (by omega)⟩
      have hg := str_get hx
      have hx' : s[k]? = some x := by
        have h := hx
        rw [HD.out.1, List.getElem?_take, if_pos (by omega)] at h
        exact h
      have HX := Lib.hid hx'
      have htk := str_take T k
      have HT : Hid (T.take k = s.take k) := by rw [Hid, HD.out.1, List.take_take, Nat.min_eq_left (by omega)]
      clear hx hx'
      by_cases h0 : x.toNat = 0
      · have hz : ((x.toNat : Int) == 0) = true := by simp [h0]
        obtain ⟨U, hU⟩ : ∃ U, U = T.take k := ⟨_, rfl⟩
        rw [← hU] at htk HT
        have HU := Lib.hid hU
        clear hU
        go_wp2
        go_round
        case rel => exact ⟨k, U, by omega, rfl, HT.out, by rw [← HD.out.2, cutLen, if_pos (by rw [mkAt_of HX.out]; exact h0)]⟩
        case measure =>
          have : (ByteArray.mk U.toArray).size = k := by
            show U.length = k
            rw [HU.out, List.length_take, hTl]
            omega
          simp [this, hsz]
      · have hz : ((x.toNat : Int) == 0) = false := by simp [h0]
        go_wp2
        go_ret
        exact ⟨by rw [out.out (by rw [cutLen, if_neg (by rw [mkAt_of HX.out]; exact h0)])]; rfl, rfl⟩
end Go.Proofs.Ytedaldkfflogkaa
