/- The document's Parse. -/
import Derived.Test.YtedaldkfflogkaaDoorMkRef
import Derived.BigQuiet
namespace Go.Proofs.YtedaldkfflogkaaDoor
open Go Go.RowKit
set_option maxRecDepth 100000
set_option maxHeartbeats 4000000

theorem rparse_short (w : World) (s : List UInt8) (h : s.length < 2) : Calls Tryd.prog 7 #[.string ⟨s.toArray⟩] w fun e w' => e = .returned (.tuple #[.int .i64 0, .string ⟨([] : List UInt8).toArray⟩, .int .i64 3]) ∧ Only (fun _ => False) w w' := by
  obtain ⟨n, hn⟩ : ∃ n, n = s.length := ⟨_, rfl⟩
  have hl : (ByteArray.mk s.toArray).size = n := by rw [hn]; rfl
  have hd : decide ((n : Int) < 2) = true := by simp; omega
  clear hn h
  go_enter Tryd.func7, Tryd.ntmps7
  go_wp2
  go_ret3
  exact ⟨rfl, Only.refl _ _⟩

theorem rparse_kind (w : World) (s : List UInt8) {x y : UInt8} {r : List UInt8} (hx : s = x :: y :: r) (hb : ¬ ((251 ≤ x.toNat ∧ x.toNat ≤ 254) ∧ y.toNat = 2)) : Calls Tryd.prog 7 #[.string ⟨s.toArray⟩] w fun e w' => e = .returned (.tuple #[.int .i64 0, .string ⟨([] : List UInt8).toArray⟩, .int .i64 9]) ∧ Only (fun _ => False) w w' := by
  obtain ⟨n, hn⟩ : ∃ n, n = s.length := ⟨_, rfl⟩
  have hl : (ByteArray.mk s.toArray).size = n := by rw [hn]; rfl
  have hn2 : 2 ≤ n := by rw [hn, hx]; simp
  have g0 := str_get (s := s) (k := 0) (x := x) (by rw [hx]; rfl)
  have g1 := str_get (s := s) (k := 1) (x := y) (by rw [hx]; rfl)
  have hd : decide ((n : Int) < 2) = false := by simp; omega
  have h01 : (0 : Int) < (n : Int) := by omega
  have h11 : (1 : Int) < (n : Int) := by omega
  clear hx hn
  rcases (show x.toNat < 251 ∨ (¬ x.toNat < 251 ∧ 254 < x.toNat) ∨ (¬ x.toNat < 251 ∧ ¬ 254 < x.toNat ∧ y.toNat ≠ 2) by omega) with h1 | ⟨h1, h2⟩ | ⟨h1, h2, h3⟩
  · have e1 : decide ((x.toNat : Int) < 251) = true := by simp; omega
    clear hb h1
    go_enter Tryd.func7, Tryd.ntmps7
    go_wp2
    go_ret3
    exact ⟨rfl, Only.refl _ _⟩
  · have e1 : decide ((x.toNat : Int) < 251) = false := by simp; omega
    have e2 : decide ((254 : Int) < (x.toNat : Int)) = true := by simp; omega
    clear hb h1 h2
    go_enter Tryd.func7, Tryd.ntmps7
    go_wp2
    go_ret3
    exact ⟨rfl, Only.refl _ _⟩
  · have e1 : decide ((x.toNat : Int) < 251) = false := by simp; omega
    have e2 : decide ((254 : Int) < (x.toNat : Int)) = false := by simp; omega
    have e3 : ((y.toNat : Int) != 2) = true := by simp; omega
    have e4 : ((y.toNat : Int) == 2) = false := by simp; omega
    clear hb h1 h2 h3
    go_enter Tryd.func7, Tryd.ntmps7
    go_wp2
    go_ret3
    exact ⟨rfl, Only.refl _ _⟩

theorem rparse_long (w : World) (s : List UInt8) {x y : UInt8} {r : List UInt8} (hx : s = x :: y :: r) (hv : 251 ≤ x.toNat ∧ x.toNat ≤ 254) (hy : y.toNat = 2) (hlong : 34 < s.length ∨ (¬ 34 < s.length ∧ 2 < s.length ∧ x.toNat ≠ 253)) : Calls Tryd.prog 7 #[.string ⟨s.toArray⟩] w fun e w' => e = .returned (.tuple #[.int .i64 0, .string ⟨([] : List UInt8).toArray⟩, .int .i64 4]) ∧ Only (fun _ => False) w w' := by
  obtain ⟨n, hn⟩ : ∃ n, n = s.length := ⟨_, rfl⟩
  have hl : (ByteArray.mk s.toArray).size = n := by rw [hn]; rfl
  have hn2 : 2 ≤ n := by rw [hn, hx]; simp
  have g0 := str_get (s := s) (k := 0) (x := x) (by rw [hx]; rfl)
  have g1 := str_get (s := s) (k := 1) (x := y) (by rw [hx]; rfl)
  have hd : decide ((n : Int) < 2) = false := by simp; omega
  have h01 : (0 : Int) < (n : Int) := by omega
  have h11 : (1 : Int) < (n : Int) := by omega
  have e1 : decide ((x.toNat : Int) < 251) = false := by simp; omega
  have e2 : decide ((254 : Int) < (x.toNat : Int)) = false := by simp; omega
  have e3 : ((y.toNat : Int) != 2) = false := by simp; omega
  have e4 : ((y.toNat : Int) == 2) = true := by simp; omega
  rw [← hn] at hlong
  clear hx hn hv hy
  rcases hlong with h | ⟨h, h2, h3⟩
  · have e5 : decide ((34 : Int) < (n : Int)) = true := by simp; omega
    clear h
    go_enter Tryd.func7, Tryd.ntmps7
    go_wp2
    go_ret3
    exact ⟨rfl, Only.refl _ _⟩
  · have e5 : decide ((34 : Int) < (n : Int)) = false := by simp; omega
    have e6 : decide ((2 : Int) < (n : Int)) = true := by simp; omega
    have e7 : ((x.toNat : Int) != 253) = true := by simp; omega
    have e8 : ((x.toNat : Int) == 253) = false := by simp; omega
    clear h h2 h3
    go_enter Tryd.func7, Tryd.ntmps7
    go_wp2
    go_ret3
    exact ⟨rfl, Only.refl _ _⟩

theorem rparse_ok (w : World) (s : List UInt8) {x y : UInt8} {r : List UInt8} (hx : s = x :: y :: r) (hv : 251 ≤ x.toNat ∧ x.toNat ≤ 254) (hy : y.toNat = 2) (hfit : s.length ≤ 34 ∧ (s.length = 2 ∨ x.toNat = 253)) : Calls Tryd.prog 7 #[.string ⟨s.toArray⟩] w fun e w' => e = .returned (.tuple #[.int .i64 (x.toNat : Int), .string ⟨(mkCut r).toArray⟩, .int .i64 0]) ∧ Only (fun _ => False) w w' := by
  obtain ⟨n, hn⟩ : ∃ n, n = s.length := ⟨_, rfl⟩
  have hl : (ByteArray.mk s.toArray).size = n := by rw [hn]; rfl
  have hn2 : 2 ≤ n := by rw [hn, hx]; simp
  have g0 := str_get (s := s) (k := 0) (x := x) (by rw [hx]; rfl)
  have g1 := str_get (s := s) (k := 1) (x := y) (by rw [hx]; rfl)
  have hcut : (ByteArray.mk s.toArray).extract 2 n = ⟨r.toArray⟩ := by
    rw [str_cut, hn, List.take_length, hx]
    rfl
  have HC := Lib.hid (fun W => rcut_any W r (by rw [hx] at hfit; simp at hfit; omega))
  have hd : decide ((n : Int) < 2) = false := by simp; omega
  have h01 : (0 : Int) < (n : Int) := by omega
  have h11 : (1 : Int) < (n : Int) := by omega
  have e1 : decide ((x.toNat : Int) < 251) = false := by simp; omega
  have e2 : decide ((254 : Int) < (x.toNat : Int)) = false := by simp; omega
  have e3 : ((y.toNat : Int) != 2) = false := by simp; omega
  have e4 : ((y.toNat : Int) == 2) = true := by simp; omega
  have e5 : decide ((34 : Int) < (n : Int)) = false := by rw [← hn] at hfit; simp; omega
  have hxl := x.toNat_lt
  have hxw := wrap64_nat x.toNat (by omega)
  obtain ⟨c, hc⟩ : ∃ c, c = mkCut r := ⟨_, rfl⟩
  rw [← hc] at HC ⊢
  by_cases h2 : n = 2
  · have e6 : decide ((2 : Int) < (n : Int)) = false := by simp; omega
    clear hx hn hv hy hfit hc h2
    go_enter Tryd.func7, Tryd.ntmps7
    go_wp2
    go_quiet ((go_at_call 11; exact Calls.quiet_of_same (still_of (HC.out _))))
    go_wp2
    go_ret3
    exact ⟨rfl, (Only.refl _ _).drewN _⟩
  · have e6 : decide ((2 : Int) < (n : Int)) = true := by simp; omega
    have e7 : ((x.toNat : Int) != 253) = false := by rw [← hn] at hfit; simp; omega
    have e8 : ((x.toNat : Int) == 253) = true := by rw [← hn] at hfit; simp; omega
    clear hx hn hv hy hfit hc h2
    go_enter Tryd.func7, Tryd.ntmps7
    go_wp2
    go_quiet ((go_at_call 11; exact Calls.quiet_of_same (still_of (HC.out _))))
    go_wp2
    go_ret3
    exact ⟨rfl, (Only.refl _ _).drewN _⟩
end Go.Proofs.YtedaldkfflogkaaDoor
