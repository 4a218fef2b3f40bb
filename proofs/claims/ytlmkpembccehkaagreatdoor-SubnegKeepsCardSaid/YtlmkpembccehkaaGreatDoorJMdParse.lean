/- Several texts in one. -/
import Derived.Test.YtlmkpembccehkaaGreatDoorJErrs
import Derived.BigQuiet
import Derived.Test.YtlmkpembccehkaaGreatDoorJInfo
import Derived.Test.YtlmkpembccehkaaGreatDoorJBox
/- What a body says: the program's Parse of any bytes. -/
namespace Go.Proofs.YtlmkpembccehkaaGreatDoor
open Go Go.RowKit
set_option maxRecDepth 100000
set_option maxHeartbeats 4000000

/-- The errors that modes tell: by their places among the sixteen. -/
@[reducible] def mdSel : List Nat := [2, 3, 4, 7, 8, 9]

section
variable {w : World} {es : List Addr} {A : Option Addr} {n : Nat} {b : List UInt8} {x y : UInt8}
/-- The two bytes lie side by side. -/
theorem Src.pair (hs : Src w A 2 [x, y]) : ∃ ad, A = some ad ∧ w.cell? ad = some (.int .u8 (x.toNat : Int)) ∧ w.cell? ⟨ad.block, ad.off + 1, none⟩ = some (.int .u8 (y.toNat : Int)) := by
  obtain ⟨ad, rfl, hx⟩ := hs.2 (by omega)
  have c0 := hx 0 x rfl
  have c1 := hx 1 y rfl
  rw [show ad.add 0 = ad from by simp [Addr.add]] at c0
  rw [show ad.add 1 = ⟨ad.block, ad.off + 1, none⟩ from by simp [Addr.add]] at c1
  exact ⟨ad, rfl, c0, c1⟩
theorem mdParse_short (hes : ErrsOf w mdSel es) (A : Option Addr) (n cap : Nat) (h : n < 2) :
    Calls Tryz.prog 104 #[.slice A n cap] w fun e w' => ∃ a, es[2]? = some a ∧ e = .returned (.tuple #[.int .i64 0, .bool false, errV a]) ∧ Only (fun _ => False) w w' := by
  obtain ⟨a, ha, hc⟩ := hes.get 2 9 (by decide) rfl
  unfold errV at hc
  have HA := Lib.hid ha
  have hd : decide ((n : Int) < 2) = true := by simp; omega
  clear ha hes h
  go_enter Tryz.func104, Tryz.ntmps104
  go_wp2
  go_quiet (fail)
  go_wp2
  go_ret3
  exact ⟨a, HA.out, rfl, (Only.refl _ _).drewN _⟩
theorem mdParse_long (hes : ErrsOf w mdSel es) (A : Option Addr) (n cap : Nat) (h : 2 < n) :
    Calls Tryz.prog 104 #[.slice A n cap] w fun e w' => ∃ a, es[3]? = some a ∧ e = .returned (.tuple #[.int .i64 0, .bool false, errV a]) ∧ Only (fun _ => False) w w' := by
  obtain ⟨a, ha, hc⟩ := hes.get 3 3 (by decide) rfl
  unfold errV at hc
  have HA := Lib.hid ha
  have hd : decide ((n : Int) < 2) = false := by simp; omega
  have hd2 : decide ((2 : Int) < (n : Int)) = true := by simp; omega
  clear ha hes h
  go_enter Tryz.func104, Tryz.ntmps104
  go_wp2
  go_quiet (fail)
  go_wp2
  go_ret3
  exact ⟨a, HA.out, rfl, (Only.refl _ _).drewN _⟩
theorem mdParse_kind (hes : ErrsOf w mdSel es) (cap : Nat) (hs : Src w A 2 [x, y]) (h : x.toNat ≠ 1) :
    Calls Tryz.prog 104 #[.slice A 2 cap] w fun e w' => ∃ a, es[8]? = some a ∧ e = .returned (.tuple #[.int .i64 0, .bool false, errV a]) ∧ Only (fun _ => False) w w' := by
  obtain ⟨a, ha, hc⟩ := hes.get 8 0 (by decide) rfl
  unfold errV at hc
  have HA := Lib.hid ha
  obtain ⟨ad, rfl, c0, c1⟩ := hs.pair
  have e1 : ((x.toNat : Int) == 1) = false := by simp; omega
  have e2 : ((x.toNat : Int) != 1) = true := by simp; omega
  clear ha hes hs h
  go_enter Tryz.func104, Tryz.ntmps104
  go_wp2
  go_quiet (fail)
  go_wp2
  go_ret3
  exact ⟨a, HA.out, rfl, (Only.refl _ _).drewN _⟩
theorem mdParse_form (hes : ErrsOf w mdSel es) (cap : Nat) (hs : Src w A 2 [x, y]) (h : x.toNat = 1) (hm : isMask (clr y.toNat) = false) :
    Calls Tryz.prog 104 #[.slice A 2 cap] w fun e w' => ∃ a, es[4]? = some a ∧ e = .returned (.tuple #[.int .i64 0, .bool false, errV a]) ∧ Only (fun _ => False) w w' := by
  obtain ⟨a, ha, hc⟩ := hes.get 4 5 (by decide) rfl
  unfold errV at hc
  have HA := Lib.hid ha
  obtain ⟨ad, rfl, c0, c1⟩ := hs.pair
  rw [h] at c0
  have hy := y.toNat_lt
  have hb := clr_bits y.toNat hy
  have hin := clr_in y.toNat hy
  have HR := Lib.hid (fun W => mdRight_any W (m := clr y.toNat) ⟨by omega, by omega⟩)
  rw [hm] at HR
  generalize y.toNat = z at *
  generalize clr z = q at *
  clear ha hes hs h hm
  go_enter Tryz.func104, Tryz.ntmps104
  go_wp2_with (go_at_call 108; (with_reducible refine (HR.out _).mono ?_); rintro e w1 ⟨rfl, e1⟩; subst w1)
  go_quiet (fail)
  go_wp2
  go_ret3
  exact ⟨a, HA.out, rfl, (Only.refl _ _).drewN _⟩
theorem mdParse_ok (cap : Nat) (hs : Src w A 2 [x, y]) (h : x.toNat = 1) (hm : isMask (clr y.toNat) = true) :
    Calls Tryz.prog 104 #[.slice A 2 cap] w fun e w' => e = .returned (.tuple #[.int .i64 (clr y.toNat), .bool (ackB y.toNat), .nilIface]) ∧ Only (fun _ => False) w w' := by
  obtain ⟨ad, rfl, c0, c1⟩ := hs.pair
  rw [h] at c0
  have hy := y.toNat_lt
  have hb := clr_bits y.toNat hy
  have hin := clr_in y.toNat hy
  have hne := ack_ne y.toNat hy
  have HR := Lib.hid (fun W => mdRight_any W (m := clr y.toNat) ⟨by omega, by omega⟩)
  rw [hm] at HR
  generalize y.toNat = z at *
  generalize clr z = q at *
  generalize ackB z = k at *
  clear hs h hm
  go_enter Tryz.func104, Tryz.ntmps104
  go_wp2_with (go_at_call 108; (with_reducible refine (HR.out _).mono ?_); rintro e w1 ⟨rfl, e1⟩; subst w1)
  go_ret3
  exact ⟨rfl, Only.refl _ _⟩
/-- Parse of any bytes. -/
theorem mdParse_any (hes : ErrsOf w mdSel es) (cap : Nat) (hs : Src w A n b) :
    ∃ E, ErrV es E (saysM b).2.2 ∧ Calls Tryz.prog 104 #[.slice A n cap] w fun e w' => e = .returned (.tuple #[.int .i64 (saysM b).1, .bool (saysM b).2.1, E]) ∧ Only (fun _ => False) w w' := by
  have key : ∀ (i : Nat) (hi : i ∈ mdSel) (g : Nat), errIds[i]? = some g → saysM b = (0, false, i + 1) → (Calls Tryz.prog 104 #[.slice A n cap] w fun e w' => ∃ a, es[i]? = some a ∧ e = .returned (.tuple #[.int .i64 0, .bool false, errV a]) ∧ Only (fun _ => False) w w') →
      ∃ E, ErrV es E (saysM b).2.2 ∧ Calls Tryz.prog 104 #[.slice A n cap] w fun e w' => e = .returned (.tuple #[.int .i64 (saysM b).1, .bool (saysM b).2.1, E]) ∧ Only (fun _ => False) w w' := by
    intro i hi g hg hb h
    obtain ⟨a, ha, _⟩ := hes.get i g hi hg
    rw [hb]
    refine ⟨errV a, ErrV.err ha _ rfl, h.mono ?_⟩
    rintro e w' ⟨a', ha', rfl, ho⟩
    rw [ha] at ha'
    injection ha' with ha'
    subst ha'
    exact ⟨rfl, ho⟩
  have hl := hs.1
  match b, hl, hs, key with
  | [], hl, hs, key => exact key 2 (by decide) _ rfl rfl (mdParse_short hes A n cap (by simp at hl; omega))
  | [_], hl, hs, key => exact key 2 (by decide) _ rfl rfl (mdParse_short hes A n cap (by simp at hl; omega))
  | [x, y], hl, hs, key =>
    obtain rfl : n = 2 := by simpa using hl.symm
    by_cases h : x.toNat = 1
    · cases hm : isMask (clr y.toNat) with
      | false => exact key 4 (by decide) _ rfl (by simp [saysM, h, hm]) (mdParse_form hes cap hs h hm)
      | true =>
        have hb : saysM [x, y] = (clr y.toNat, ackB y.toNat, 0) := by simp [saysM, h, hm]
        rw [hb]
        exact ⟨_, ErrV.nil es, mdParse_ok cap hs h hm⟩
    · exact key 8 (by decide) _ rfl (by simp [saysM, h]) (mdParse_kind hes cap hs h)
  | x :: y :: z :: r, hl, hs, key => exact key 3 (by decide) _ rfl rfl (mdParse_long hes A n cap (by simp at hl; omega))
end
end Go.Proofs.YtlmkpembccehkaaGreatDoor
/- Heads and tails: Set, and both ways to hear. -/
namespace Go.Proofs.YtlmkpembccehkaaGreatDoor
open Go Go.RowKit
set_option maxRecDepth 100000
set_option maxHeartbeats 4000000

/-- What Set answers: the error's number. -/
def setNum (m hm : Int) (wt : Bool) : Nat := if isMask m then (if wt then 10 else if hm = m then 8 else 0) else 5
/-- What a head that hears answers. -/
def hearNum (b : List UInt8) (wt : Bool) : Nat := if (saysM b).2.2 = 0 then (if (saysM b).2.1 && wt then 0 else 10) else (saysM b).2.2
/-- What a tail that hears answers. -/
def takeNum (b : List UInt8) : Nat := if (saysM b).2.2 = 0 then (if (saysM b).2.1 then 10 else 0) else (saysM b).2.2

section
variable {w : World} {es : List Addr} {A : Option Addr} {n : Nat} {b : List UInt8} {p q : Nat} {m hm can tm : Int} {wt : Bool}
theorem ErrV.is_err {E : Value} {k : Nat} (h : ErrV es E k) (hk : k ≠ 0) : ∃ a, E = .iface 191 (.pointer (some a)) := by
  rcases h with ⟨rfl, _⟩ | ⟨i, a, _, _, rfl⟩
  · exact absurd rfl hk
  · exact ⟨a, rfl⟩
theorem HdAt.lt (h : HdAt w p m wt) : p < w.heap.size := Blk.lt h
theorem TlAt.lt (h : TlAt w q can m) : q < w.heap.size := Blk.lt h
theorem HdAt.same {w' : World} (h : HdAt w p m wt) (ho : Only (fun _ => False) w w') : HdAt w' p m wt := Blk.only h ho (fun h => h)
theorem TlAt.same {w' : World} (h : TlAt w q can m) (ho : Only (fun _ => False) w w') : TlAt w' q can m := Blk.only h ho (fun h => h)
theorem HdAt.far {w' : World} (h : HdAt w p m wt) (ho : Only (· = q) w w') (hne : p ≠ q) : HdAt w' p m wt := Blk.only h ho hne
theorem TlAt.far {w' : World} (h : TlAt w q can m) (ho : Only (· = p) w w') (hne : q ≠ p) : TlAt w' q can m := Blk.only h ho hne

theorem mdHear_bad (hes : ErrsOf w mdSel es) (hh : HdAt w p hm wt) (cap : Nat) (hs : Src w A n b) (hn : hearNum b wt ≠ 0) :
    Calls Tryz.prog 93 #[.pointer (some ⟨p, 0, none⟩), .slice A n cap] w fun e w' => ∃ E, ErrV es E (hearNum b wt) ∧ e = .returned E ∧ Only (fun _ => False) w w' := by
  obtain ⟨E, hE, hP⟩ := mdParse_any hes cap hs
  have HP := Lib.hid hP
  unfold hearNum at hn ⊢
  by_cases hz : (saysM b).2.2 = 0
  · rw [if_pos hz] at hn ⊢
    rw [hz] at hE
    obtain rfl : E = .nilIface := by
      rcases hE with ⟨_, h⟩ | ⟨i, _, h, _⟩
      · exact h
      · omega
    obtain ⟨a, ha, hc⟩ := hes.get 9 8 (by decide) rfl
    have hc' : ∀ W, Only (fun _ => False) w W → W.cell? ⟨8, 0, none⟩ = some (.iface 191 (.pointer (some a))) := fun W ho => ho.cellv hc (fun h => h)
    have HC := Lib.hid hc'
    have HA : Hid (ErrV es (errV a) 10) := ErrV.err ha 10 rfl
    have HB : Hid (∀ W, Only (fun _ => False) w W → W.cell? ⟨p, 1, none⟩ = some (.bool wt)) := fun W ho => Blk.cell (hh.same ho) 1
    generalize (saysM b).1 = z at *
    generalize (saysM b).2.1 = k at *
    have hkw : (k && wt) = false := by
      cases h : (k && wt) with
      | false => rfl
      | true => rw [h] at hn; simp at hn
    rw [hkw, if_neg (by simp)]
    clear hn hz hE hP hes ha hc hc' hh hs
    cases k <;> cases wt
    case true.true => cases hkw
    all_goals
      clear hkw
      go_enter Tryz.func93, Tryz.ntmps93
      go_wp2_with (go_at_call 104; (with_reducible refine HP.out.mono ?_); rintro e w1 ⟨rfl, ho1⟩; have HO1 := Lib.hid ho1; have c1 := HB.out _ ho1; have c2 := HC.out _ ho1; clear ho1)
      go_ret
      exact ⟨_, HA.out, rfl, HO1.out⟩
  · rw [if_neg hz] at hn ⊢
    obtain ⟨a, rfl⟩ := hE.is_err hn
    have HE := Lib.hid hE
    generalize (saysM b).1 = z at *
    generalize (saysM b).2.1 = k at *
    generalize (saysM b).2.2 = y at *
    clear hn hz hE hP hes hh hs
    go_enter Tryz.func93, Tryz.ntmps93
    go_wp2_with (go_at_call 104; (with_reducible refine HP.out.mono ?_); rintro e w1 ⟨rfl, ho1⟩; have HO1 := Lib.hid ho1; clear ho1)
    go_ret
    exact ⟨_, HE.out, rfl, HO1.out⟩

theorem mdHear_ok (hes : ErrsOf w mdSel es) (hh : HdAt w p hm wt) (cap : Nat) (hs : Src w A n b) (hn : hearNum b wt = 0) :
    Calls Tryz.prog 93 #[.pointer (some ⟨p, 0, none⟩), .slice A n cap] w fun e w' => e = .returned .nilIface ∧ Hid (HdAt w' p (saysM b).1 false) ∧ Hid (Only (· = p) w w') := by
  obtain ⟨E, hE, hP⟩ := mdParse_any hes cap hs
  have HP := Lib.hid hP
  unfold hearNum at hn
  by_cases hz : (saysM b).2.2 = 0
  · rw [if_pos hz] at hn
    rw [hz] at hE
    obtain rfl : E = .nilIface := by
      rcases hE with ⟨_, h⟩ | ⟨i, _, h, _⟩
      · exact h
      · omega
    have HH := Lib.hid hh
    generalize (saysM b).1 = z at *
    generalize (saysM b).2.1 = k at *
    obtain ⟨rfl, rfl⟩ : k = true ∧ wt = true := by
      cases k <;> cases wt <;> simp at hn ⊢
    have hlt := hh.lt
    clear hn hz hE hP hes hh hs
    go_enter Tryz.func93, Tryz.ntmps93
    go_wp2_with (go_at_call 104; (with_reducible refine HP.out.mono ?_); rintro e w1 ⟨rfl, ho1⟩; have HO1 := Lib.hid ho1; have HB1 := Lib.hid (HH.out.same ho1); have c0 := Blk.cell HB1.out 0; have c1 := Blk.cell HB1.out 1; have f0 := Blk.frozen HB1.out 0; have f1 := Blk.frozen HB1.out 1; simp only [List.getElem?_cons_zero, List.getElem?_cons_succ] at c0 c1; clear ho1)
    go_ret
    refine ⟨rfl, ?_, ?_⟩
    · exact (Blk.setCell HB1.out 0 (.int .i64 z)).setCell 1 (.bool false)
    · exact Only.setCell (S := (· = p)) (p := ⟨p, 1, none⟩) (Only.setCell (S := (· = p)) (p := ⟨p, 0, none⟩) (HO1.out.mono (fun _ h => h.elim)) (.inl rfl) _) (.inl rfl) _
  · rw [if_neg hz] at hn
    exact absurd hn hz

theorem mdTake_bad (hes : ErrsOf w mdSel es) (cap : Nat) (hs : Src w A n b) (hn : takeNum b ≠ 0) :
    Calls Tryz.prog 92 #[.pointer (some ⟨q, 0, none⟩), .slice A n cap] w fun e w' => ∃ E, ErrV es E (takeNum b) ∧ e = .returned (.tuple #[.slice none 0 0, E]) ∧ Only (fun _ => False) w w' := by
  obtain ⟨E, hE, hP⟩ := mdParse_any hes cap hs
  have HP := Lib.hid hP
  unfold takeNum at hn ⊢
  by_cases hz : (saysM b).2.2 = 0
  · rw [if_pos hz] at hn ⊢
    rw [hz] at hE
    obtain rfl : E = .nilIface := by
      rcases hE with ⟨_, h⟩ | ⟨i, _, h, _⟩
      · exact h
      · omega
    obtain ⟨a, ha, hc⟩ := hes.get 9 8 (by decide) rfl
    have hc' : ∀ W, Only (fun _ => False) w W → W.cell? ⟨8, 0, none⟩ = some (.iface 191 (.pointer (some a))) := fun W ho => ho.cellv hc (fun h => h)
    have HC := Lib.hid hc'
    have HA : Hid (ErrV es (errV a) 10) := ErrV.err ha 10 rfl
    generalize (saysM b).1 = z at *
    generalize (saysM b).2.1 = k at *
    obtain rfl : k = true := by
      cases k <;> simp at hn ⊢
    rw [if_pos rfl]
    clear hn hz hE hP hes ha hc hc' hs
    go_enter Tryz.func92, Tryz.ntmps92
    go_wp2_with (go_at_call 104; (with_reducible refine HP.out.mono ?_); rintro e w1 ⟨rfl, ho1⟩; have HO1 := Lib.hid ho1; have c2 := HC.out _ ho1; clear ho1)
    go_quiet (fail)
    go_wp2
    go_ret2
    exact ⟨_, HA.out, rfl, HO1.out.drewN _⟩
  · rw [if_neg hz] at hn ⊢
    obtain ⟨a, rfl⟩ := hE.is_err hn
    have HE := Lib.hid hE
    generalize (saysM b).1 = z at *
    generalize (saysM b).2.1 = k at *
    generalize (saysM b).2.2 = y at *
    clear hn hz hE hP hes hs
    go_enter Tryz.func92, Tryz.ntmps92
    go_wp2_with (go_at_call 104; (with_reducible refine HP.out.mono ?_); rintro e w1 ⟨rfl, ho1⟩; have HO1 := Lib.hid ho1; clear ho1)
    go_ret2
    exact ⟨_, HE.out, rfl, HO1.out⟩

theorem mdTake_ok (hes : ErrsOf w mdSel es) (hh : TlAt w q can tm) (hcan : isMask can = true) (cap : Nat) (hs : Src w A n b) (hn : takeNum b = 0) :
    Calls Tryz.prog 92 #[.pointer (some ⟨q, 0, none⟩), .slice A n cap] w fun e w' => ∃ N, e = .returned (.tuple #[.slice (some ⟨N, 0, none⟩) 2 2, .nilIface]) ∧ Hid (w.heap.size ≤ N) ∧ Hid (Src w' (some ⟨N, 0, none⟩) 2 (bodyM (both (saysM b).1 can + 4))) ∧ Hid (TlAt w' q can (both (saysM b).1 can)) ∧ Hid (Only (· = q) w w') := by
  obtain ⟨E, hE, hP⟩ := mdParse_any hes cap hs
  have HP := Lib.hid hP
  unfold takeNum at hn
  by_cases hz : (saysM b).2.2 = 0
  · rw [if_pos hz] at hn
    rw [hz] at hE
    obtain rfl : E = .nilIface := by
      rcases hE with ⟨_, h⟩ | ⟨i, _, h, _⟩
      · exact h
      · omega
    have hm := saysM_mask hz
    have HH := Lib.hid hh
    generalize (saysM b).1 = z at *
    generalize (saysM b).2.1 = k at *
    obtain rfl : k = false := by
      cases k <;> simp at hn ⊢
    have ha := and_both hm hcan
    have hbm := both_mask hm hcan
    have ho4 := or_four hbm
    have hb := isMask_iff.1 hbm
    generalize both z can = y at *
    have HTl := Lib.hid (fun W => mdTell_any W (m := y + 4) (by omega) (by omega))
    clear hn hz hE hP hes hh hs hm hcan hbm hb
    go_enter Tryz.func92, Tryz.ntmps92
    go_wp2_with (first
      | (go_at_call 104; (with_reducible refine HP.out.mono ?_); rintro e w1 ⟨rfl, ho1⟩; have HO1 := Lib.hid ho1; have HB1 := Lib.hid (HH.out.same ho1); have c0 := Blk.cell HB1.out 0; have c1 := Blk.cell HB1.out 1; have f0 := Blk.frozen HB1.out 0; have f1 := Blk.frozen HB1.out 1; simp only [List.getElem?_cons_zero, List.getElem?_cons_succ] at c0 c1; have hlt := HB1.out.lt; clear ho1)
      | (go_at_call 105; (with_reducible refine (HTl.out _).mono ?_); rintro e w2 ⟨rfl, hs2, ho2⟩))
    go_ret2
    have hO1 : Only (· = q) w (w1.setCell ⟨q, 1, none⟩ (.int .i64 y)) := Only.setCell (S := (· = q)) (p := ⟨q, 1, none⟩) (HO1.out.mono (fun _ h => h.elim)) (.inl rfl) _
    refine ⟨_, rfl, ?_, ?_, ?_, hO1.trans ho2.out (fun _ h => h.elim)⟩
    · exact HO1.out.size
    · have h := hs2.out
      rw [setCell_size] at h
      exact h
    · exact Blk.only (Blk.setCell HB1.out 1 (.int .i64 y)) ho2.out (fun h => h)
  · rw [if_neg hz] at hn
    exact absurd hn hz
end
end Go.Proofs.YtlmkpembccehkaaGreatDoor
/- Within a block: heads (from place 108 on) and tails (from place 110 on): Hear, Mask, Waits. -/
namespace Go.Proofs.YtlmkpembccehkaaGreatDoor
open Go Go.RowKit
set_option maxRecDepth 100000
set_option maxHeartbeats 4000000

/-- A head, in a block. -/
@[reducible] def HeIn (w : World) (p : Nat) (t : TypeId) (pre post : List Value) (m : Int) (b : Bool) : Prop := InB w p t pre post 108 [.int .i64 m, .bool b]
/-- A tail. -/
@[reducible] def TaIn (w : World) (q : Nat) (t : TypeId) (pre post : List Value) (can m : Int) : Prop := InB w q t pre post 110 [.int .i64 can, .int .i64 m]
section
variable {w : World} {es : List Addr} {A : Option Addr} {n : Nat} {b : List UInt8} {p q : Nat} {m hm can tm : Int} {wt : Bool} {t : TypeId} {pre post : List Value}
theorem heMask_any (h : HeIn w p t pre post m wt) : Calls Tryz.prog 31 #[.pointer (some ⟨p, 108, none⟩)] w fun e w' => e = .returned (.int .i64 m) ∧ w' = w := by
  have c0 : w.cell? ⟨p, 108, none⟩ = some (.int .i64 m) := h.val (i := 0) rfl
  clear h
  go_enter Tryz.func31, Tryz.ntmps31
  go_wp2
  go_ret
  exact ⟨rfl, rfl⟩
theorem heWaits_any (h : HeIn w p t pre post m wt) : Calls Tryz.prog 34 #[.pointer (some ⟨p, 108, none⟩)] w fun e w' => e = .returned (.bool wt) ∧ w' = w := by
  have c1 : w.cell? ⟨p, 109, none⟩ = some (.bool wt) := h.val (i := 1) rfl
  clear h
  go_enter Tryz.func34, Tryz.ntmps34
  go_wp2
  go_ret
  exact ⟨rfl, rfl⟩
theorem taMask_any (h : TaIn w q t pre post can m) : Calls Tryz.prog 32 #[.pointer (some ⟨q, 110, none⟩)] w fun e w' => e = .returned (.int .i64 m) ∧ w' = w := by
  have c1 : w.cell? ⟨q, 111, none⟩ = some (.int .i64 m) := h.val (i := 1) rfl
  clear h
  go_enter Tryz.func32, Tryz.ntmps32
  go_wp2
  go_ret
  exact ⟨rfl, rfl⟩
theorem heHear_bad (hes : ErrsOf w mdSel es) (hh : HeIn w p t pre post hm wt) (cap : Nat) (hs : Src w A n b) (hn : hearNum b wt ≠ 0) :
    Calls Tryz.prog 93 #[.pointer (some ⟨p, 108, none⟩), .slice A n cap] w fun e w' => ∃ E, ErrV es E (hearNum b wt) ∧ e = .returned E ∧ Only (fun _ => False) w w' := by
  obtain ⟨E, hE, hP⟩ := mdParse_any hes cap hs
  have HP := Lib.hid hP
  unfold hearNum at hn ⊢
  by_cases hz : (saysM b).2.2 = 0
  · rw [if_pos hz] at hn ⊢
    rw [hz] at hE
    obtain rfl : E = .nilIface := by
      rcases hE with ⟨_, h⟩ | ⟨i, _, h, _⟩
      · exact h
      · omega
    obtain ⟨a, ha, hc⟩ := hes.get 9 8 (by decide) rfl
    have hc' : ∀ W, Only (fun _ => False) w W → W.cell? ⟨8, 0, none⟩ = some (.iface 191 (.pointer (some a))) := fun W ho => ho.cellv hc (fun h => h)
    have HC := Lib.hid hc'
    have HA : Hid (ErrV es (errV a) 10) := ErrV.err ha 10 rfl
    have HB : Hid (∀ W, Only (fun _ => False) w W → W.cell? ⟨p, 109, none⟩ = some (.bool wt)) := fun W ho => (hh.same ho).val (i := 1) rfl
    generalize (saysM b).1 = z at *
    generalize (saysM b).2.1 = k at *
    have hkw : (k && wt) = false := by
      cases h : (k && wt) with
      | false => rfl
      | true => rw [h] at hn; simp at hn
    rw [hkw, if_neg (by simp)]
    clear hn hz hE hP hes ha hc hc' hh hs
    cases k <;> cases wt
    case true.true => cases hkw
    all_goals
      clear hkw
      go_enter Tryz.func93, Tryz.ntmps93
      go_wp2_with (go_at_call 104; (with_reducible refine HP.out.mono ?_); rintro e w1 ⟨rfl, ho1⟩; have HO1 := Lib.hid ho1; have c1 := HB.out _ ho1; have c2 := HC.out _ ho1; clear ho1)
      go_ret
      exact ⟨_, HA.out, rfl, HO1.out⟩
  · rw [if_neg hz] at hn ⊢
    obtain ⟨a, rfl⟩ := hE.is_err hn
    have HE := Lib.hid hE
    generalize (saysM b).1 = z at *
    generalize (saysM b).2.1 = k at *
    generalize (saysM b).2.2 = y at *
    clear hn hz hE hP hes hh hs
    go_enter Tryz.func93, Tryz.ntmps93
    go_wp2_with (go_at_call 104; (with_reducible refine HP.out.mono ?_); rintro e w1 ⟨rfl, ho1⟩; have HO1 := Lib.hid ho1; clear ho1)
    go_ret
    exact ⟨_, HE.out, rfl, HO1.out⟩

theorem heHear_ok (hes : ErrsOf w mdSel es) (hh : HeIn w p t pre post hm wt) (cap : Nat) (hs : Src w A n b) (hn : hearNum b wt = 0) :
    Calls Tryz.prog 93 #[.pointer (some ⟨p, 108, none⟩), .slice A n cap] w fun e w' => e = .returned .nilIface ∧ Hid (HeIn w' p t pre post (saysM b).1 false) ∧ Hid (Only (· = p) w w') := by
  obtain ⟨E, hE, hP⟩ := mdParse_any hes cap hs
  have HP := Lib.hid hP
  unfold hearNum at hn
  by_cases hz : (saysM b).2.2 = 0
  · rw [if_pos hz] at hn
    rw [hz] at hE
    obtain rfl : E = .nilIface := by
      rcases hE with ⟨_, h⟩ | ⟨i, _, h, _⟩
      · exact h
      · omega
    have HH := Lib.hid hh
    generalize (saysM b).1 = z at *
    generalize (saysM b).2.1 = k at *
    obtain ⟨rfl, rfl⟩ : k = true ∧ wt = true := by
      cases k <;> cases wt <;> simp at hn ⊢
    have hlt := hh.lt
    clear hn hz hE hP hes hh hs
    go_enter Tryz.func93, Tryz.ntmps93
    go_wp2_with (go_at_call 104; (with_reducible refine HP.out.mono ?_); rintro e w1 ⟨rfl, ho1⟩; have HO1 := Lib.hid ho1; have HB1 := Lib.hid (HH.out.same ho1); have c0 : w1.cell? ⟨p, 108, none⟩ = some _ := HB1.out.val (i := 0) rfl; have c1 : w1.cell? ⟨p, 109, none⟩ = some _ := HB1.out.val (i := 1) rfl; have f0 := HB1.out.frozen 108; have f1 := HB1.out.frozen 109; clear ho1)
    go_ret
    refine ⟨rfl, ?_, ?_⟩
    · exact (HB1.out.setCell (i := 0) (by simp) (.int .i64 z)).setCell (i := 1) (by simp) (.bool false)
    · exact Only.setCell (S := (· = p)) (p := ⟨p, 109, none⟩) (Only.setCell (S := (· = p)) (p := ⟨p, 108, none⟩) (HO1.out.mono (fun _ h => h.elim)) (.inl rfl) _) (.inl rfl) _
  · rw [if_neg hz] at hn
    exact absurd hn hz

theorem taHear_bad (hes : ErrsOf w mdSel es) (cap : Nat) (hs : Src w A n b) (hn : takeNum b ≠ 0) :
    Calls Tryz.prog 92 #[.pointer (some ⟨q, 110, none⟩), .slice A n cap] w fun e w' => ∃ E, ErrV es E (takeNum b) ∧ e = .returned (.tuple #[.slice none 0 0, E]) ∧ Only (fun _ => False) w w' := by
  obtain ⟨E, hE, hP⟩ := mdParse_any hes cap hs
  have HP := Lib.hid hP
  unfold takeNum at hn ⊢
  by_cases hz : (saysM b).2.2 = 0
  · rw [if_pos hz] at hn ⊢
    rw [hz] at hE
    obtain rfl : E = .nilIface := by
      rcases hE with ⟨_, h⟩ | ⟨i, _, h, _⟩
      · exact h
      · omega
    obtain ⟨a, ha, hc⟩ := hes.get 9 8 (by decide) rfl
    have hc' : ∀ W, Only (fun _ => False) w W → W.cell? ⟨8, 0, none⟩ = some (.iface 191 (.pointer (some a))) := fun W ho => ho.cellv hc (fun h => h)
    have HC := Lib.hid hc'
    have HA : Hid (ErrV es (errV a) 10) := ErrV.err ha 10 rfl
    generalize (saysM b).1 = z at *
    generalize (saysM b).2.1 = k at *
    obtain rfl : k = true := by
      cases k <;> simp at hn ⊢
    rw [if_pos rfl]
    clear hn hz hE hP hes ha hc hc' hs
    go_enter Tryz.func92, Tryz.ntmps92
    go_wp2_with (go_at_call 104; (with_reducible refine HP.out.mono ?_); rintro e w1 ⟨rfl, ho1⟩; have HO1 := Lib.hid ho1; have c2 := HC.out _ ho1; clear ho1)
    go_quiet (fail)
    go_wp2
    go_ret2
    exact ⟨_, HA.out, rfl, HO1.out.drewN _⟩
  · rw [if_neg hz] at hn ⊢
    obtain ⟨a, rfl⟩ := hE.is_err hn
    have HE := Lib.hid hE
    generalize (saysM b).1 = z at *
    generalize (saysM b).2.1 = k at *
    generalize (saysM b).2.2 = y at *
    clear hn hz hE hP hes hs
    go_enter Tryz.func92, Tryz.ntmps92
    go_wp2_with (go_at_call 104; (with_reducible refine HP.out.mono ?_); rintro e w1 ⟨rfl, ho1⟩; have HO1 := Lib.hid ho1; clear ho1)
    go_ret2
    exact ⟨_, HE.out, rfl, HO1.out⟩

theorem taHear_ok (hes : ErrsOf w mdSel es) (hh : TaIn w q t pre post can tm) (hcan : isMask can = true) (cap : Nat) (hs : Src w A n b) (hn : takeNum b = 0) :
    Calls Tryz.prog 92 #[.pointer (some ⟨q, 110, none⟩), .slice A n cap] w fun e w' => ∃ N, e = .returned (.tuple #[.slice (some ⟨N, 0, none⟩) 2 2, .nilIface]) ∧ Hid (w.heap.size ≤ N) ∧ Hid (Src w' (some ⟨N, 0, none⟩) 2 (bodyM (both (saysM b).1 can + 4))) ∧ Hid (TaIn w' q t pre post can (both (saysM b).1 can)) ∧ Hid (Only (· = q) w w') := by
  obtain ⟨E, hE, hP⟩ := mdParse_any hes cap hs
  have HP := Lib.hid hP
  unfold takeNum at hn
  by_cases hz : (saysM b).2.2 = 0
  · rw [if_pos hz] at hn
    rw [hz] at hE
    obtain rfl : E = .nilIface := by
      rcases hE with ⟨_, h⟩ | ⟨i, _, h, _⟩
      · exact h
      · omega
    have hm := saysM_mask hz
    have HH := Lib.hid hh
    generalize (saysM b).1 = z at *
    generalize (saysM b).2.1 = k at *
    obtain rfl : k = false := by
      cases k <;> simp at hn ⊢
    have ha := and_both hm hcan
    have hbm := both_mask hm hcan
    have ho4 := or_four hbm
    have hb := isMask_iff.1 hbm
    generalize both z can = y at *
    have HTl := Lib.hid (fun W => mdTell_any W (m := y + 4) (by omega) (by omega))
    clear hn hz hE hP hes hh hs hm hcan hbm hb
    go_enter Tryz.func92, Tryz.ntmps92
    go_wp2_with (first
      | (go_at_call 104; (with_reducible refine HP.out.mono ?_); rintro e w1 ⟨rfl, ho1⟩; have HO1 := Lib.hid ho1; have HB1 := Lib.hid (HH.out.same ho1); have c0 : w1.cell? ⟨q, 110, none⟩ = some _ := HB1.out.val (i := 0) rfl; have c1 : w1.cell? ⟨q, 111, none⟩ = some _ := HB1.out.val (i := 1) rfl; have f0 := HB1.out.frozen 110; have f1 := HB1.out.frozen 111; have hlt := HB1.out.lt; clear ho1)
      | (go_at_call 105; (with_reducible refine (HTl.out _).mono ?_); rintro e w2 ⟨rfl, hs2, ho2⟩))
    go_ret2
    have hO1 : Only (· = q) w (w1.setCell ⟨q, 111, none⟩ (.int .i64 y)) := Only.setCell (S := (· = q)) (p := ⟨q, 111, none⟩) (HO1.out.mono (fun _ h => h.elim)) (.inl rfl) _
    refine ⟨_, rfl, ?_, ?_, ?_, hO1.trans ho2.out (fun _ h => h.elim)⟩
    · exact HO1.out.size
    · have h := hs2.out
      rw [setCell_size] at h
      exact h
    · exact (HB1.out.setCell (i := 1) (by simp) (.int .i64 y)).same ho2.out
  · rw [if_neg hz] at hn
    exact absurd hn hz
end
end Go.Proofs.YtlmkpembccehkaaGreatDoor
/- Within a block: a side's Waits (from place 18 on). -/
namespace Go.Proofs.YtlmkpembccehkaaGreatDoor
open Go Go.RowKit
set_option maxRecDepth 100000
set_option maxHeartbeats 4000000

theorem idx_char (W : World) {cs : List Value} {S : Sd} (h : ScC cs S) {i : Nat} (hi : i < 18) : (Instr.index 78 (.agg cs.toArray) (.int .i64 (i : Int))).run Tryz.prog W = .ok (.agg (S i).cs.toArray) W := by
  have hu := Tryz.underlying78
  have hs : ∀ W, (sizeOf 77).run Tryz.prog W = .ok 5 W := fun W => by kernel_rfl
  have hg : ∀ W, (isAgg 77).run Tryz.prog W = .ok true W := fun W => by kernel_rfl
  have hi2 : (i : Int) < 18 := by omega
  have he : List.take 5 (List.drop (i * 5) cs) = (S i).cs := by
    apply List.ext_getElem?
    intro j
    by_cases hj : j < 5
    · have hv : (S i).cs[j]? = some ((S i).cs[j]'hj) := List.getElem?_eq_getElem _
      rw [hv, ← h.at_ i j _ hi hv, List.getElem?_take, if_pos hj, List.getElem?_drop]
    · rw [List.getElem?_take, if_neg hj, List.getElem?_eq_none (by simp; omega)]
  simp [Instr.index, run_underlying hu, asIntOf, go_sem, part, hs, hg]
  rw [if_pos hi, he]
theorem size_arr : (Tryz.prog.info? 78).map (·.size) = some 90 := by kernel_rfl

theorem siWaits_any {W : World} {p : Nat} {t : TypeId} {pre post cs : List Value} {S : Sd} (hB : InB W p t pre post 18 cs) (hC : ScC cs S) : Calls Tryz.prog 33 #[.pointer (some ⟨p, 18, none⟩)] W fun e w' => e = .returned (.int .i64 (waitsS S : Int)) ∧ Only (fun _ => False) W w' := by
  have HB := Lib.hid hB
  have HC := Lib.hid hC
  have hsz : (Tryz.prog.info? 78).map (·.size) = some cs.length := by rw [hC.len]; exact size_arr
  have hix : ∀ W i, i < 18 → _ := fun W i (hi : i < 18) => idx_char W hC hi
  have HX := Lib.hid hix
  have HSz := Lib.hid hsz
  clear hB hC hix hsz
  go_enter Tryz.func33, Tryz.ntmps33
  go_wp2_with (first
    | ((with_reducible show wpList _ _ _ (⟨some 9, _, _, _, _, _⟩ :: _) _ _); refine wpList_load_mid rfl 78 _ rfl p 18 rfl cs _ HB.out.range Tryz.underlying78 rfl HSz.out ?_)
    | fail)
  go_loopw [3, 10] (fun n i w => ∃ k : Nat, k ≤ 18 ∧ n = .int .i64 (waitsTo S k : Int) ∧ i = .int .i64 (k : Int) ∧ Hid (Only (fun _ => False) W w)) (fun _ i _ => 18 - (intOf i).toNat)
  case atStart => exact ⟨0, Nat.zero_le _, rfl, rfl, Only.refl _ _⟩
  case round =>
    obtain ⟨k, hk, rfl, rfl, hrel⟩ := hrel
    by_cases hlt : k < 18
    · have hlt2 : (k : Int) < 18 := by omega
      have hx := fun W => HX.out W k hlt
      obtain ⟨b, hb⟩ : ∃ b, b = (S k).waits := ⟨_, rfl⟩
      obtain ⟨v0, v1, v2, v3, hv⟩ : ∃ v0 v1 v2 v3 : Int, (S k).cs = [.int .i64 v0, .int .i64 v1, .int .i64 v2, .int .i64 v3, .bool b] := ⟨_, _, _, _, by rw [hb]⟩
      have hn := waitsTo_le S k
      have hs : waitsTo S (k + 1) = waitsTo S k + if b then 1 else 0 := by rw [hb]; rfl
      obtain ⟨n, hnn⟩ : ∃ n, n = waitsTo S k := ⟨_, rfl⟩
      rw [← hnn] at hn hs ⊢
      rw [hv] at hx
      have HS := Lib.hid hs
      clear hb hv hs hnn
      cases b
      all_goals
        go_wp2
        go_roundw
        case rel => exact ⟨k + 1, by omega, by rw [HS.out]; go_num, by go_num, hrel.out.alloc _⟩
        case measure => simp [intOf]; omega
    · obtain rfl : k = 18 := by omega
      go_wp2
      go_ret
      exact ⟨rfl, hrel.out⟩
end Go.Proofs.YtlmkpembccehkaaGreatDoor
