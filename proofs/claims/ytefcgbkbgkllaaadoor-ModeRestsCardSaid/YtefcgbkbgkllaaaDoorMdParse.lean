/- What a body says: the program's Parse of any bytes. -/
import Derived.Test.YtefcgbkbgkllaaaDoorMd
import Derived.BigQuiet
namespace Go.Proofs.YtefcgbkbgkllaaaDoor
open Go Go.RowKit
set_option maxRecDepth 100000
set_option maxHeartbeats 4000000

/-- The errors that modes tell: by their places among the sixteen. -/
@[reducible] def mdSel : List Nat := [2, 3, 4, 7, 8, 9]

section
variable {w : World} {es : List Addr} {A : Option Addr} {n : Nat} {b : List UInt8} {x y : UInt8}
/-- The two bytes lie side by side. -/
theorem Src.pair (hs : Src w A 2 [x, y]) : ∃ ad, A = some ad ∧ w.cell? ad = some (.int .u8 (x.toNat : Int)) ∧ w.cell? ⟨ad.block, ad.off + 1, none⟩ = some (.int .u8 (y.toNat : Int)) := by
  obtain ⟨ad, rfl, hx⟩ := hs.2 (by omega)
  have c0 := hx 0 x rfl
  have c1 := hx 1 y rfl
  rw [show ad.add 0 = ad from by simp [Addr.add]] at c0
  rw [show ad.add 1 = ⟨ad.block, ad.off + 1, none⟩ from by simp [Addr.add]] at c1
  exact ⟨ad, rfl, c0, c1⟩
theorem mdParse_short (hes : ErrsOf w mdSel es) (A : Option Addr) (n cap : Nat) (h : n < 2) :
    Calls Tryd.prog 7 #[.slice A n cap] w fun e w' => ∃ a, es[2]? = some a ∧ e = .returned (.tuple #[.int .i64 0, .bool false, errV a]) ∧ Only (fun _ => False) w w' := by
  obtain ⟨a, ha, hc⟩ := hes.get 2 0 (by decide) rfl
  unfold errV at hc
  have HA := Lib.hid ha
  have hd : decide ((n : Int) < 2) = true := by simp; omega
  clear ha hes h
  go_enter Tryd.func7, Tryd.ntmps7
  go_wp2
  go_quiet (fail)
  go_wp2
  go_ret3
  exact ⟨a, HA.out, rfl, (Only.refl _ _).drewN _⟩
theorem mdParse_long (hes : ErrsOf w mdSel es) (A : Option Addr) (n cap : Nat) (h : 2 < n) :
    Calls Tryd.prog 7 #[.slice A n cap] w fun e w' => ∃ a, es[3]? = some a ∧ e = .returned (.tuple #[.int .i64 0, .bool false, errV a]) ∧ Only (fun _ => False) w w' := by
  obtain ⟨a, ha, hc⟩ := hes.get 3 1 (by decide) rfl
  unfold errV at hc
  have HA := Lib.hid ha
  have hd : decide ((n : Int) < 2) = false := by simp; omega
  have hd2 : decide ((2 : Int) < (n : Int)) = true := by simp; omega
  clear ha hes h
  go_enter Tryd.func7, Tryd.ntmps7
  go_wp2
  go_quiet (fail)
  go_wp2
  go_ret3
  exact ⟨a, HA.out, rfl, (Only.refl _ _).drewN _⟩
theorem mdParse_kind (hes : ErrsOf w mdSel es) (cap : Nat) (hs : Src w A 2 [x, y]) (h : x.toNat ≠ 1) :
    Calls Tryd.prog 7 #[.slice A 2 cap] w fun e w' => ∃ a, es[8]? = some a ∧ e = .returned (.tuple #[.int .i64 0, .bool false, errV a]) ∧ Only (fun _ => False) w w' := by
  obtain ⟨a, ha, hc⟩ := hes.get 8 2 (by decide) rfl
  unfold errV at hc
  have HA := Lib.hid ha
  obtain ⟨ad, rfl, c0, c1⟩ := hs.pair
  have e1 : ((x.toNat : Int) == 1) = false := by simp; omega
  have e2 : ((x.toNat : Int) != 1) = true := by simp; omega
  clear ha hes hs h
  go_enter Tryd.func7, Tryd.ntmps7
  go_wp2
  go_quiet (fail)
  go_wp2
  go_ret3
  exact ⟨a, HA.out, rfl, (Only.refl _ _).drewN _⟩
theorem mdParse_form (hes : ErrsOf w mdSel es) (cap : Nat) (hs : Src w A 2 [x, y]) (h : x.toNat = 1) (hm : isMask (clr y.toNat) = false) :
    Calls Tryd.prog 7 #[.slice A 2 cap] w fun e w' => ∃ a, es[4]? = some a ∧ e = .returned (.tuple #[.int .i64 0, .bool false, errV a]) ∧ Only (fun _ => False) w w' := by
  obtain ⟨a, ha, hc⟩ := hes.get 4 3 (by decide) rfl
  unfold errV at hc
  have HA := Lib.hid ha
  obtain ⟨ad, rfl, c0, c1⟩ := hs.pair
  rw [h] at c0
  have hy := y.toNat_lt
  have hb := clr_bits y.toNat hy
  have hin := clr_in y.toNat hy
  have HR := Lib.hid (fun W => mdRight_any W (m := clr y.toNat) ⟨by omega, by omega⟩)
  rw [hm] at HR
  generalize y.toNat = z at *
  generalize clr z = q at *
  clear ha hes hs h hm
  go_enter Tryd.func7, Tryd.ntmps7
  go_wp2_with (go_at_call 12; (with_reducible refine (HR.out _).mono ?_); rintro e w1 ⟨rfl, e1⟩; subst w1)
  go_quiet (fail)
  go_wp2
  go_ret3
  exact ⟨a, HA.out, rfl, (Only.refl _ _).drewN _⟩
theorem mdParse_ok (cap : Nat) (hs : Src w A 2 [x, y]) (h : x.toNat = 1) (hm : isMask (clr y.toNat) = true) :
    Calls Tryd.prog 7 #[.slice A 2 cap] w fun e w' => e = .returned (.tuple #[.int .i64 (clr y.toNat), .bool (ackB y.toNat), .nilIface]) ∧ Only (fun _ => False) w w' := by
  obtain ⟨ad, rfl, c0, c1⟩ := hs.pair
  rw [h] at c0
  have hy := y.toNat_lt
  have hb := clr_bits y.toNat hy
  have hin := clr_in y.toNat hy
  have hne := ack_ne y.toNat hy
  have HR := Lib.hid (fun W => mdRight_any W (m := clr y.toNat) ⟨by omega, by omega⟩)
  rw [hm] at HR
  generalize y.toNat = z at *
  generalize clr z = q at *
  generalize ackB z = k at *
  clear hs h hm
  go_enter Tryd.func7, Tryd.ntmps7
  go_wp2_with (go_at_call 12; (with_reducible refine (HR.out _).mono ?_); rintro e w1 ⟨rfl, e1⟩; subst w1)
  go_ret3
  exact ⟨rfl, Only.refl _ _⟩
/-- Parse of any bytes. -/
theorem mdParse_any (hes : ErrsOf w mdSel es) (cap : Nat) (hs : Src w A n b) :
    ∃ E, ErrV es E (saysM b).2.2 ∧ Calls Tryd.prog 7 #[.slice A n cap] w fun e w' => e = .returned (.tuple #[.int .i64 (saysM b).1, .bool (saysM b).2.1, E]) ∧ Only (fun _ => False) w w' := by
  have key : ∀ (i : Nat) (hi : i ∈ mdSel) (g : Nat), errIds[i]? = some g → saysM b = (0, false, i + 1) → (Calls Tryd.prog 7 #[.slice A n cap] w fun e w' => ∃ a, es[i]? = some a ∧ e = .returned (.tuple #[.int .i64 0, .bool false, errV a]) ∧ Only (fun _ => False) w w') →
      ∃ E, ErrV es E (saysM b).2.2 ∧ Calls Tryd.prog 7 #[.slice A n cap] w fun e w' => e = .returned (.tuple #[.int .i64 (saysM b).1, .bool (saysM b).2.1, E]) ∧ Only (fun _ => False) w w' := by
    intro i hi g hg hb h
    obtain ⟨a, ha, _⟩ := hes.get i g hi hg
    rw [hb]
    refine ⟨errV a, ErrV.err ha _ rfl, h.mono ?_⟩
    rintro e w' ⟨a', ha', rfl, ho⟩
    rw [ha] at ha'
    injection ha' with ha'
    subst ha'
    exact ⟨rfl, ho⟩
  have hl := hs.1
  match b, hl, hs, key with
  | [], hl, hs, key => exact key 2 (by decide) _ rfl rfl (mdParse_short hes A n cap (by simp at hl; omega))
  | [_], hl, hs, key => exact key 2 (by decide) _ rfl rfl (mdParse_short hes A n cap (by simp at hl; omega))
  | [x, y], hl, hs, key =>
    obtain rfl : n = 2 := by simpa using hl.symm
    by_cases h : x.toNat = 1
    · cases hm : isMask (clr y.toNat) with
      | false => exact key 4 (by decide) _ rfl (by simp [saysM, h, hm]) (mdParse_form hes cap hs h hm)
      | true =>
        have hb : saysM [x, y] = (clr y.toNat, ackB y.toNat, 0) := by simp [saysM, h, hm]
        rw [hb]
        exact ⟨_, ErrV.nil es, mdParse_ok cap hs h hm⟩
    · exact key 8 (by decide) _ rfl (by simp [saysM, h]) (mdParse_kind hes cap hs h)
  | x :: y :: z :: r, hl, hs, key => exact key 3 (by decide) _ rfl rfl (mdParse_long hes A n cap (by simp at hl; omega))
end
end Go.Proofs.YtefcgbkbgkllaaaDoor
