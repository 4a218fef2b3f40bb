/- The chapter's example; sizes and bodies that came in; NawsBack, walked. -/
import Derived.Test.YtmoajpjhekkdfaaDoorNawsBody
import Derived.Test.YtmoajpjhekkdfaaDoorNawsFit
import Derived.Test.YtmoajpjhekkdfaaDoorText
import Derived.Laws.StructEq
import Derived.Deep.RegionHeld3
namespace Go.Proofs.YtmoajpjhekkdfaaDoor
open Go Go.ChangeShapes Go.WideShapes Go.ChangeAt Go.RowKit
set_option maxRecDepth 100000
set_option maxHeartbeats 4000000

theorem nws_alive (w : World) : Calls Tryd.prog 5 #[] w fun e w' => e = .returned (.bool true) ∧ Only (fun _ => False) w w' := by
  have HB := Lib.hid (fun W => body_ok W 80 24 rfl rfl)
  go_enter Tryd.func5, Tryd.ntmps5
  go_wp2_with (go_at_call 6; refine (HB.out _).mono ?_; rintro e w1 ⟨N, rfl, hs1, ho1⟩; have hT := hs1.out.texts 4 w1 (Only.refl _ _); rw [show (bodyOf 80 24).toArray = #[0, 80, 0, 24] from by decide] at hT)
  go_ret
  exact ⟨rfl, ho1.out⟩

theorem eq_sz (W : World) (a b c d : Int) : (Op.equalIn 10000 23 (.agg #[.int .i64 a, .int .i64 b]) (.agg #[.int .i64 c, .int .i64 d])).run Tryd.prog W = .ok (decide (a = c ∧ b = d)) W := by
  rw [show (10000 : Nat) = 9999 + 1 from rfl, run_equalIn_struct W 9999 _ _ _ (by kernel_rfl) (by kernel_rfl)]
  have u3 : Tryd.prog.underlying 3 = some (.int .i64) := Tryd.underlying3
  simp only [Program.fieldsOf, Tryd.underlying23, Op.eqFields]
  simp [go_sem, u3, Result.andThen]
  by_cases h1 : a = c <;> by_cases h2 : b = d <;> simp [h1, h2]
theorem same_sz (W : World) (a b : Int) : (Op.equalIn 10000 23 (.agg #[.int .i64 a, .int .i64 b]) (.agg #[.int .i64 a, .int .i64 b])).run Tryd.prog W = .ok true W := by
  rw [eq_sz]
  simp
theorem guard_sz : Tryd.prog.eqGuardType Tryd.prog.depth 23 = false := by kernel_rfl
theorem less_comm (a b : Int) : less a b = less b a := by
  unfold less
  repeat' split
  all_goals omega
theorem less_self {a : Int} (h : fitsN a = true) : less a a = a := by
  rw [fitsN_iff] at h
  unfold less
  repeat' split
  all_goals omega
theorem less_zero {a : Int} (h : fitsN a = true) : less a 0 = a := by
  rw [fitsN_iff] at h
  unfold less
  repeat' split
  all_goals omega
theorem two_of {n : Int} (h : fitsN n = true) : two (UInt8.ofNat (n / 256).toNat) (UInt8.ofNat (n % 256).toNat) = n := by
  rw [fitsN_iff] at h
  unfold two
  rw [b8_of (by omega) (by omega), b8_of (by omega) (by omega)]
  omega
theorem two_fits (a b : UInt8) : fitsN (two a b) = true := by
  have := a.toNat_lt
  have := b.toNat_lt
  rw [fitsN_iff]
  unfold two
  omega
theorem bodyOf_two (a b c d : UInt8) : bodyOf (two a b) (two c d) = [a, b, c, d] := by
  have ha := a.toNat_lt
  have hb := b.toNat_lt
  have hc := c.toNat_lt
  have hd := d.toNat_lt
  have k : ∀ x y : UInt8, UInt8.ofNat (two x y / 256).toNat = x ∧ UInt8.ofNat (two x y % 256).toNat = y := fun x y => by
    have hx := x.toNat_lt
    have hy := y.toNat_lt
    unfold two
    rw [show ((256 * (x.toNat : Int) + (y.toNat : Int)) / 256).toNat = x.toNat from by omega, show ((256 * (x.toNat : Int) + (y.toNat : Int)) % 256).toNat = y.toNat from by omega]
    exact ⟨UInt8.ofNat_toNat, UInt8.ofNat_toNat⟩
  unfold bodyOf
  rw [(k a b).1, (k a b).2, (k c d).1, (k c d).2]
end Go.Proofs.YtmoajpjhekkdfaaDoor
