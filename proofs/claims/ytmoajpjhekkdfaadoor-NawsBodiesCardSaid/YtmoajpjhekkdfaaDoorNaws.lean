/- A window's sizes: the program's calls on numbers, and on sizes. -/
import Derived.Test.YtmoajpjhekkdfaaDoorRefuse
import Derived.BigQuiet
namespace Go.Proofs.YtmoajpjhekkdfaaDoor
open Go Go.RowKit
set_option maxRecDepth 100000
set_option maxHeartbeats 4000000

/-- A size's value. -/
def szVal (c r : Int) : Value := .agg #[.int .i64 c, .int .i64 r]
/-- A number that two bytes can tell. -/
def fitsN (n : Int) : Bool := decide (0 ≤ n) && decide (n ≤ 65535)
theorem fitsN_iff {n : Int} : fitsN n = true ↔ 0 ≤ n ∧ n ≤ 65535 := by simp [fitsN]
/-- The lesser one. -/
def less (a b : Int) : Int := if a ≤ 0 then (if b ≤ 0 then 0 else b) else if b ≤ 0 then a else if a ≤ b then a else b

theorem fits_any (w : World) (n : Int) : Calls Tryd.prog 19 #[.int .i64 n] w fun e w' => e = .returned (.bool (fitsN n)) ∧ w = w' := by
  unfold fitsN
  obtain ⟨p, hp⟩ : ∃ p, p = decide (0 ≤ n) := ⟨_, rfl⟩
  obtain ⟨q, hq⟩ : ∃ q, q = decide (n ≤ 65535) := ⟨_, rfl⟩
  have h1 := hp.symm
  have h2 := hq.symm
  rw [← hp, ← hq]
  clear hp hq
  cases p <;> cases q
  all_goals
    go_enter Tryd.func19, Tryd.ntmps19
    go_wp2
    go_ret
    exact ⟨rfl, rfl⟩
theorem high_any (w : World) (n : Int) (h : fitsN n = true) : Calls Tryd.prog 14 #[.int .i64 n] w fun e w' => e = .returned (.int .u8 (n / 256)) ∧ w = w' := by
  obtain ⟨h0, h1⟩ := fitsN_iff.1 h
  clear h
  go_enter Tryd.func14, Tryd.ntmps14
  go_wp2
  go_ret
  exact ⟨rfl, rfl⟩
theorem low_any (w : World) (n : Int) (h : fitsN n = true) : Calls Tryd.prog 15 #[.int .i64 n] w fun e w' => e = .returned (.int .u8 (n % 256)) ∧ w = w' := by
  obtain ⟨h0, h1⟩ := fitsN_iff.1 h
  clear h
  go_enter Tryd.func15, Tryd.ntmps15
  go_wp2
  go_ret
  exact ⟨rfl, rfl⟩
theorem or_pair (x y : Nat) (hx : x < 256) (hy : y < 256) : bits .or .i64 ((x : Int) * 256) (y : Int) = 256 * (x : Int) + (y : Int) := by
  have e : bits .or .i64 ((x : Int) * 256) (y : Int) = IntKind.wrap .i64 ((BitVec.ofInt 64 ((x : Int) * 256) ||| BitVec.ofInt 64 (y : Int)).toNat : Int) := rfl
  have h1 : BitVec.ofInt 64 ((x : Int) * 256) = BitVec.ofNat 64 (x * 256) := by
    rw [show (x : Int) * 256 = ((x * 256 : Nat) : Int) from by omega]
    rfl
  have h2 : BitVec.ofInt 64 (y : Int) = BitVec.ofNat 64 y := rfl
  have h3 : x * 256 ||| y = x * 256 + y := by
    have := Nat.shiftLeft_add_eq_or_of_lt (i := 8) (b := y) (by omega) x
    rw [Nat.shiftLeft_eq] at this
    exact this.symm
  rw [e, h1, h2, BitVec.toNat_or, BitVec.toNat_ofNat, BitVec.toNat_ofNat, Nat.mod_eq_of_lt (by omega), Nat.mod_eq_of_lt (by omega), h3, IntWalk.i64_left, IntWalk.wrap64_in _ (by omega)]
  omega
/-- What two bytes tell. -/
def two (a b : UInt8) : Int := 256 * (a.toNat : Int) + (b.toNat : Int)
theorem number_any (w : World) (a b : UInt8) : Calls Tryd.prog 16 #[B8 a, B8 b] w fun e w' => e = .returned (.int .i64 (two a b)) ∧ w = w' := by
  have ha := a.toNat_lt
  have hb := b.toNat_lt
  have ho := or_pair a.toNat b.toNat ha hb
  unfold B8 two
  generalize a.toNat = x at *
  generalize b.toNat = y at *
  go_enter Tryd.func16, Tryd.ntmps16
  go_wp2
  go_ret
  exact ⟨rfl, rfl⟩
theorem lesser_any (w : World) (a b : Int) : Calls Tryd.prog 20 #[.int .i64 a, .int .i64 b] w fun e w' => e = .returned (.int .i64 (less a b)) ∧ w = w' := by
  obtain ⟨L, hL⟩ : ∃ L, L = less a b := ⟨_, rfl⟩
  have HL := Lib.hid hL
  rw [← hL]
  clear hL
  by_cases h1 : a ≤ 0 <;> by_cases h2 : b ≤ 0 <;> by_cases h3 : a ≤ b
  all_goals
    go_enter Tryd.func20, Tryd.ntmps20
    go_wp2
  all_goals
    go_ret
    refine ⟨?_, rfl⟩
    rw [HL.out]
    show Ending.returned (.int .i64 _) = _
    congr 2
    unfold less
    repeat' split
    all_goals omega
end Go.Proofs.YtmoajpjhekkdfaaDoor
