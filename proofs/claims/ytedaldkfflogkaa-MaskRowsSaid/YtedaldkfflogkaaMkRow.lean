/- The document's row of bytes. -/
import Derived.Test.YtedaldkfflogkaaMkRef
namespace Go.Proofs.Ytedaldkfflogkaa
open Go Go.RowKit
set_option maxRecDepth 100000
set_option maxHeartbeats 4000000

theorem rowX_le (xs : List UInt8) (i k : Nat) (hk : k ≤ 8) : rowX xs i k ≤ 255 := by
  have h := rowX_lt xs i k
  have := Nat.pow_le_pow_right (n := 2) (by omega) hk
  omega

theorem rrow_any (w : World) (xs : List UInt8) (hn : xs.length ≤ 300) : Calls Try.prog 7 #[.string ⟨xs.toArray⟩] w fun e w' => e = .returned (.string ⟨(mkCut (mkOf xs)).toArray⟩) ∧ Only (fun _ => False) w w' := by
  obtain ⟨n, hl⟩ : ∃ n, n = xs.length := ⟨_, rfl⟩
  have hsz : (ByteArray.mk xs.toArray).size = n := by rw [hl]; rfl
  have HL := Lib.hid hl
  have HC := Lib.hid (fun W => rcut_any W (mkOf xs) (by rw [mkOf_len]; omega))
  rw [← hl] at hn
  clear hl
  go_enter Try.func7, Try.ntmps7
  go_wp2
  go_loopw [3, 4] (fun v u W => ∃ (i : Nat) (T : List UInt8), i ≤ 32 ∧ v = .string ⟨T.toArray⟩ ∧ u = .int .i64 (i : Int) ∧ Hid (T = rowTo xs i ∧ Only (fun _ => False) w W)) (fun _ u _ => 32 - (intOf u).toNat)
  case atStart => exact ⟨0, [], by omega, rfl, rfl, rfl, Only.refl _ _⟩
  case round =>
    obtain ⟨i, T, hi, rfl, rfl, HD⟩ := hrel
    by_cases hlt : i < 32
    · go_wp2
      go_loop [5, 6] (fun v u => ∃ (k y : Nat), k ≤ 8 ∧ y ≤ 255 ∧ v = .int .i64 (y : Int) ∧ u = .int .i64 (k : Int) ∧ Hid (y = rowX xs i k)) (fun _ u => 8 - (intOf u).toNat)
      case atStart => exact ⟨0, 0, by omega, by omega, rfl, rfl, rfl⟩
      case round =>
        obtain ⟨k, y, hk, hy, rfl, rfl, HY⟩ := hrel
        by_cases hk8 : k < 8
        · obtain ⟨y2, hy2⟩ : ∃ y2, y2 = 2 * y := ⟨_, rfl⟩
          have e1 : (y : Int) * 2 = (y2 : Int) := by omega
          have hX0 : rowX xs i (k + 1) = y2 + (if xs.any (fun x => decide (x.toNat = 8 * i + k)) then 1 else 0) := by rw [rowX, ← HY.out, hy2]
          have hle := rowX_le xs i (k + 1) (by omega)
          rw [hX0] at hle
          have HLe := Lib.hid hle
          have hy255 : y2 ≤ 255 := by omega
          have HX := Lib.hid hX0
          obtain ⟨i8, hi8⟩ : ∃ i8, i8 = 8 * i := ⟨_, rfl⟩
          obtain ⟨g, hg⟩ : ∃ g, g = i8 + k := ⟨_, rfl⟩
          have e2 : (8 : Int) * (i : Int) = (i8 : Int) := by omega
          have e3 : (i8 : Int) + (k : Int) = (g : Int) := by omega
          have hi8b : i8 ≤ 256 := by omega
          have hgb : g ≤ 300 := by omega
          rw [← hi8, ← hg] at HX HLe
          clear hX0 hle hy2 hi8 hg
          go_wp2
          go_loop [5, 7] (fun v u => ∃ j : Nat, j ≤ n ∧ v = .int .i64 (y2 : Int) ∧ u = .int .i64 (j : Int) ∧ Hid ((xs.take j).any (fun x => decide (x.toNat = g)) = false)) (fun _ u => n - (intOf u).toNat)
          case atStart => exact ⟨0, by omega, rfl, rfl, rfl⟩
          case round =>
            obtain ⟨j, hj, rfl, rfl, HJ⟩ := hrel
            by_cases hjn : j < n
            · obtain ⟨x, hx⟩ : ∃ x, xs[j]? = some x := ⟨_, List.getElem?_eq_getElem (by rw [← HL.out]; exact hjn)⟩
              have hix := str_get hx
              have hxl := x.toNat_lt
              have HT := Lib.hid (take_snoc hx)
              have HM := Lib.hid (List.mem_of_getElem? hx)
              clear hx
              by_cases hxg : x.toNat = g
              · have e4 : ((x.toNat : Int) == (g : Int)) = true := by simp; omega
                have HG := Lib.hid hxg
                have HA : Hid (xs.any (fun x => decide (x.toNat = g)) = true) := List.any_eq_true.2 ⟨x, HM.out, by simpa using hxg⟩
                have hy1 : y2 + 1 ≤ 255 := by have := HLe.out; rw [HA.out] at this; simpa using this
                clear hxg
                go_wp2
                go_round
                case rel => exact ⟨k + 1, by omega, y2 + 1, hy1, by omega, by omega, by rw [HX.out, HA.out]; rfl⟩
                case measure => simp [intOf]; omega
              · have e4 : ((x.toNat : Int) == (g : Int)) = false := by simp; omega
                have HG := Lib.hid hxg
                clear hxg
                go_wp2
                go_round
                case rel => exact ⟨j + 1, by omega, rfl, by go_num, by rw [Hid, HT.out, List.any_append, HJ.out]; simpa using HG.out⟩
                case measure => simp [intOf]; omega
            · obtain rfl : j = n := by omega
              have HA : Hid (xs.any (fun x => decide (x.toNat = g)) = false) := by
                have h := HJ.out
                rw [List.take_of_length_le (by rw [← HL.out]; exact Nat.le_refl _)] at h
                exact h
              go_wp2
              go_round
              case rel => exact ⟨k + 1, by omega, y2, hy255, rfl, by omega, by rw [HX.out, HA.out]; rfl⟩
              case measure => simp [intOf]; omega
        · obtain rfl : k = 8 := by omega
          have hw8 : IntKind.u8.wrap (y : Int) = (y : Int) := IntWalk.u8_in _ (by omega)
          have hb8 : B8 (UInt8.ofNat y) = .int .u8 (y : Int) := by
            unfold B8
            rw [UInt8.toNat_ofNat', Nat.mod_eq_of_lt (by omega)]
          have hcn := text_new wr [UInt8.ofNat y] 1 rfl #[.int .u8 (y : Int)] (by rw [List.map_cons, List.map_nil, hb8]) wr.heap.size rfl
          have HTl : Hid (T.length ≤ 32) := by rw [Hid, HD.out.1, rowTo_len]; exact hi
          obtain ⟨U, hU⟩ : ∃ U, U = T ++ [UInt8.ofNat y] := ⟨_, rfl⟩
          have hadd := fun W => sum_texts (P := Try.prog) (w := W) T [UInt8.ofNat y] U hU.symm (by have := HTl.out; simp; omega)
          have HU : Hid (U = rowTo xs (i + 1)) := by rw [Hid, hU, rowTo_succ, ← HY.out, HD.out.1]
          obtain ⟨sy, hsy⟩ : ∃ sy, sy = [UInt8.ofNat y] := ⟨_, rfl⟩
          rw [← hsy] at hcn hadd
          clear hU hsy hb8
          go_wp2
          go_roundw
          case rel => exact ⟨i + 1, U, by omega, rfl, by go_num, HU.out, HD.out.2.alloc _⟩
          case measure => simp [intOf]; omega
    · obtain rfl : i = 32 := by omega
      have hT : T = mkOf xs := by rw [HD.out.1, rowTo_of]
      have HO := Lib.hid HD.out.2
      rw [← hT] at HC
      have HTT := Lib.hid hT
      clear HD hT
      go_wp2_with (go_at_call 11; (with_reducible refine (HC.out _).mono ?_); rintro e w9 ⟨rfl, e9⟩; subst w9)
      go_ret
      rw [← HTT.out]
      exact ⟨rfl, HO.out⟩
end Go.Proofs.Ytedaldkfflogkaa
