/- Heads and tails: Set, and both ways to hear. -/
import Derived.Test.YtefcgbkbgkllaaaDoorMdParse
namespace Go.Proofs.YtefcgbkbgkllaaaDoor
open Go Go.RowKit
set_option maxRecDepth 100000
set_option maxHeartbeats 4000000

/-- What Set answers: the error's number. -/
def setNum (m hm : Int) (wt : Bool) : Nat := if isMask m then (if wt then 10 else if hm = m then 8 else 0) else 5
/-- What a head that hears answers. -/
def hearNum (b : List UInt8) (wt : Bool) : Nat := if (saysM b).2.2 = 0 then (if (saysM b).2.1 && wt then 0 else 10) else (saysM b).2.2
/-- What a tail that hears answers. -/
def takeNum (b : List UInt8) : Nat := if (saysM b).2.2 = 0 then (if (saysM b).2.1 then 10 else 0) else (saysM b).2.2

section
variable {w : World} {es : List Addr} {A : Option Addr} {n : Nat} {b : List UInt8} {p q : Nat} {m hm can tm : Int} {wt : Bool}
theorem ErrV.is_err {E : Value} {k : Nat} (h : ErrV es E k) (hk : k ≠ 0) : ∃ a, E = .iface 87 (.pointer (some a)) := by
  rcases h with ⟨rfl, _⟩ | ⟨i, a, _, _, rfl⟩
  · exact absurd rfl hk
  · exact ⟨a, rfl⟩
theorem HdAt.lt (h : HdAt w p m wt) : p < w.heap.size := Blk.lt h
theorem TlAt.lt (h : TlAt w q can m) : q < w.heap.size := Blk.lt h
theorem HdAt.same {w' : World} (h : HdAt w p m wt) (ho : Only (fun _ => False) w w') : HdAt w' p m wt := Blk.only h ho (fun h => h)
theorem TlAt.same {w' : World} (h : TlAt w q can m) (ho : Only (fun _ => False) w w') : TlAt w' q can m := Blk.only h ho (fun h => h)
theorem HdAt.far {w' : World} (h : HdAt w p m wt) (ho : Only (· = q) w w') (hne : p ≠ q) : HdAt w' p m wt := Blk.only h ho hne
theorem TlAt.far {w' : World} (h : TlAt w q can m) (ho : Only (· = p) w w') (hne : q ≠ p) : TlAt w' q can m := Blk.only h ho hne

theorem mdSet_bad (hes : ErrsOf w mdSel es) (hh : HdAt w p hm wt) (h64 : In64 m) (hn : setNum m hm wt ≠ 0) :
    Calls Tryd.prog 16 #[.pointer (some ⟨p, 0, none⟩), .int .i64 m] w fun e w' => ∃ E, ErrV es E (setNum m hm wt) ∧ e = .returned (.tuple #[.slice none 0 0, E]) ∧ Only (fun _ => False) w w' := by
  have HR := Lib.hid (fun W => mdRight_any W h64)
  have c0 := Blk.cell hh 0
  have c1 := Blk.cell hh 1
  simp only [List.getElem?_cons_zero, List.getElem?_cons_succ] at c0 c1
  unfold setNum at hn ⊢
  cases hk : isMask m with
  | false =>
    rw [hk] at HR hn
    obtain ⟨a, ha, hc⟩ := hes.get 4 3 (by decide) rfl
    unfold errV at hc
    have HA : Hid (ErrV es (errV a) 5) := ErrV.err ha 5 rfl
    clear ha hes hn hk hh
    go_enter Tryd.func16, Tryd.ntmps16
    go_wp2_with (go_at_call 12; (with_reducible refine (HR.out _).mono ?_); rintro e w1 ⟨rfl, e1⟩; subst w1)
    go_quiet (fail)
    go_wp2
    go_ret2
    exact ⟨_, HA.out, rfl, (Only.refl _ _).drewN _⟩
  | true =>
    rw [hk] at HR hn
    cases wt with
    | true =>
      obtain ⟨a, ha, hc⟩ := hes.get 9 5 (by decide) rfl
      unfold errV at hc
      have HA : Hid (ErrV es (errV a) 10) := ErrV.err ha 10 rfl
      clear ha hes hn hk hh
      go_enter Tryd.func16, Tryd.ntmps16
      go_wp2_with (go_at_call 12; (with_reducible refine (HR.out _).mono ?_); rintro e w1 ⟨rfl, e1⟩; subst w1)
      go_quiet (fail)
      go_wp2
      go_ret2
      exact ⟨_, HA.out, rfl, (Only.refl _ _).drewN _⟩
    | false =>
      by_cases he : hm = m
      · subst he
        obtain ⟨a, ha, hc⟩ := hes.get 7 6 (by decide) rfl
        unfold errV at hc
        have HA : Hid (ErrV es (errV a) 8) := ErrV.err ha 8 rfl
        have e1 : (hm == hm) = true := by simp
        rw [if_pos rfl, if_neg (by simp), if_pos rfl]
        clear ha hes hn hk hh
        go_enter Tryd.func16, Tryd.ntmps16
        go_wp2_with (go_at_call 12; (with_reducible refine (HR.out _).mono ?_); rintro e w1 ⟨rfl, e1⟩; subst w1)
        go_quiet (fail)
        go_wp2
        go_ret2
        exact ⟨_, HA.out, rfl, (Only.refl _ _).drewN _⟩
      · exfalso
        simp [he] at hn

theorem mdSet_ok (hh : HdAt w p hm wt) (h64 : In64 m) (hn : setNum m hm wt = 0) :
    Calls Tryd.prog 16 #[.pointer (some ⟨p, 0, none⟩), .int .i64 m] w fun e w' => ∃ N, e = .returned (.tuple #[.slice (some ⟨N, 0, none⟩) 2 2, .nilIface]) ∧ Hid (w.heap.size ≤ N) ∧ Hid (Src w' (some ⟨N, 0, none⟩) 2 (bodyM m)) ∧ Hid (HdAt w' p m true) ∧ Hid (Only (· = p) w w') := by
  have HR := Lib.hid (fun W => mdRight_any W h64)
  unfold setNum at hn
  cases hk : isMask m with
  | false => rw [hk] at hn; simp at hn
  | true =>
    rw [hk] at HR hn
    cases wt with
    | true => simp at hn
    | false =>
      have hne : ¬ hm = m := fun h => by simp [h] at hn
      have hne1 : (m == hm) = false := by simp; omega
      have hb := isMask_iff.1 hk
      have HTl := Lib.hid (fun W => mdTell_any W (m := m) hb.1 (by omega))
      have c0 := Blk.cell hh 0
      have c1 := Blk.cell hh 1
      simp only [List.getElem?_cons_zero, List.getElem?_cons_succ] at c0 c1
      have f0 := Blk.frozen hh 0
      have f1 := Blk.frozen hh 1
      have HB := Lib.hid hh
      have hlt := HdAt.lt hh
      clear hh hn hk hb hne
      go_enter Tryd.func16, Tryd.ntmps16
      go_wp2_with (first
        | (go_at_call 12; (with_reducible refine (HR.out _).mono ?_); rintro e w1 ⟨rfl, e1⟩; subst w1)
        | (go_at_call 26; (with_reducible refine (HTl.out _).mono ?_); rintro e w2 ⟨rfl, hs2, ho2⟩))
      go_ret2
      have hO1 : Only (· = p) w ((w.setCell ⟨p, 0, none⟩ (.int .i64 m)).setCell ⟨p, 1, none⟩ (.bool true)) := Only.setCell (S := (· = p)) (p := ⟨p, 1, none⟩) (Only.setCell (S := (· = p)) (p := ⟨p, 0, none⟩) (Only.refl _ w) (.inl rfl) _) (.inl rfl) _
      refine ⟨_, rfl, ?_, ?_, ?_, hO1.trans ho2.out (fun _ h => h.elim)⟩
      · exact Nat.le_refl _
      · have h := hs2.out
        rw [setCell_size, setCell_size] at h
        exact h
      · have h1 := (Blk.setCell HB.out 0 (.int .i64 m)).setCell 1 (.bool true)
        exact Blk.only h1 ho2.out (fun h => h)

theorem mdHear_bad (hes : ErrsOf w mdSel es) (hh : HdAt w p hm wt) (cap : Nat) (hs : Src w A n b) (hn : hearNum b wt ≠ 0) :
    Calls Tryd.prog 17 #[.pointer (some ⟨p, 0, none⟩), .slice A n cap] w fun e w' => ∃ E, ErrV es E (hearNum b wt) ∧ e = .returned E ∧ Only (fun _ => False) w w' := by
  obtain ⟨E, hE, hP⟩ := mdParse_any hes cap hs
  have HP := Lib.hid hP
  unfold hearNum at hn ⊢
  by_cases hz : (saysM b).2.2 = 0
  · rw [if_pos hz] at hn ⊢
    rw [hz] at hE
    obtain rfl : E = .nilIface := by
      rcases hE with ⟨_, h⟩ | ⟨i, _, h, _⟩
      · exact h
      · omega
    obtain ⟨a, ha, hc⟩ := hes.get 9 5 (by decide) rfl
    have hc' : ∀ W, Only (fun _ => False) w W → W.cell? ⟨5, 0, none⟩ = some (.iface 87 (.pointer (some a))) := fun W ho => ho.cellv hc (fun h => h)
    have HC := Lib.hid hc'
    have HA : Hid (ErrV es (errV a) 10) := ErrV.err ha 10 rfl
    have HB : Hid (∀ W, Only (fun _ => False) w W → W.cell? ⟨p, 1, none⟩ = some (.bool wt)) := fun W ho => Blk.cell (hh.same ho) 1
    generalize (saysM b).1 = z at *
    generalize (saysM b).2.1 = k at *
    have hkw : (k && wt) = false := by
      cases h : (k && wt) with
      | false => rfl
      | true => rw [h] at hn; simp at hn
    rw [hkw, if_neg (by simp)]
    clear hn hz hE hP hes ha hc hc' hh hs
    cases k <;> cases wt
    case true.true => cases hkw
    all_goals
      clear hkw
      go_enter Tryd.func17, Tryd.ntmps17
      go_wp2_with (go_at_call 7; (with_reducible refine HP.out.mono ?_); rintro e w1 ⟨rfl, ho1⟩; have HO1 := Lib.hid ho1; have c1 := HB.out _ ho1; have c2 := HC.out _ ho1; clear ho1)
      go_ret
      exact ⟨_, HA.out, rfl, HO1.out⟩
  · rw [if_neg hz] at hn ⊢
    obtain ⟨a, rfl⟩ := hE.is_err hn
    have HE := Lib.hid hE
    generalize (saysM b).1 = z at *
    generalize (saysM b).2.1 = k at *
    generalize (saysM b).2.2 = y at *
    clear hn hz hE hP hes hh hs
    go_enter Tryd.func17, Tryd.ntmps17
    go_wp2_with (go_at_call 7; (with_reducible refine HP.out.mono ?_); rintro e w1 ⟨rfl, ho1⟩; have HO1 := Lib.hid ho1; clear ho1)
    go_ret
    exact ⟨_, HE.out, rfl, HO1.out⟩

theorem mdHear_ok (hes : ErrsOf w mdSel es) (hh : HdAt w p hm wt) (cap : Nat) (hs : Src w A n b) (hn : hearNum b wt = 0) :
    Calls Tryd.prog 17 #[.pointer (some ⟨p, 0, none⟩), .slice A n cap] w fun e w' => e = .returned .nilIface ∧ Hid (HdAt w' p (saysM b).1 false) ∧ Hid (Only (· = p) w w') := by
  obtain ⟨E, hE, hP⟩ := mdParse_any hes cap hs
  have HP := Lib.hid hP
  unfold hearNum at hn
  by_cases hz : (saysM b).2.2 = 0
  · rw [if_pos hz] at hn
    rw [hz] at hE
    obtain rfl : E = .nilIface := by
      rcases hE with ⟨_, h⟩ | ⟨i, _, h, _⟩
      · exact h
      · omega
    have HH := Lib.hid hh
    generalize (saysM b).1 = z at *
    generalize (saysM b).2.1 = k at *
    obtain ⟨rfl, rfl⟩ : k = true ∧ wt = true := by
      cases k <;> cases wt <;> simp at hn ⊢
    have hlt := hh.lt
    clear hn hz hE hP hes hh hs
    go_enter Tryd.func17, Tryd.ntmps17
    go_wp2_with (go_at_call 7; (with_reducible refine HP.out.mono ?_); rintro e w1 ⟨rfl, ho1⟩; have HO1 := Lib.hid ho1; have HB1 := Lib.hid (HH.out.same ho1); have c0 := Blk.cell HB1.out 0; have c1 := Blk.cell HB1.out 1; have f0 := Blk.frozen HB1.out 0; have f1 := Blk.frozen HB1.out 1; simp only [List.getElem?_cons_zero, List.getElem?_cons_succ] at c0 c1; clear ho1)
    go_ret
    refine ⟨rfl, ?_, ?_⟩
    · exact (Blk.setCell HB1.out 0 (.int .i64 z)).setCell 1 (.bool false)
    · exact Only.setCell (S := (· = p)) (p := ⟨p, 1, none⟩) (Only.setCell (S := (· = p)) (p := ⟨p, 0, none⟩) (HO1.out.mono (fun _ h => h.elim)) (.inl rfl) _) (.inl rfl) _
  · rw [if_neg hz] at hn
    exact absurd hn hz

theorem mdTake_bad (hes : ErrsOf w mdSel es) (cap : Nat) (hs : Src w A n b) (hn : takeNum b ≠ 0) :
    Calls Tryd.prog 18 #[.pointer (some ⟨q, 0, none⟩), .slice A n cap] w fun e w' => ∃ E, ErrV es E (takeNum b) ∧ e = .returned (.tuple #[.slice none 0 0, E]) ∧ Only (fun _ => False) w w' := by
  obtain ⟨E, hE, hP⟩ := mdParse_any hes cap hs
  have HP := Lib.hid hP
  unfold takeNum at hn ⊢
  by_cases hz : (saysM b).2.2 = 0
  · rw [if_pos hz] at hn ⊢
    rw [hz] at hE
    obtain rfl : E = .nilIface := by
      rcases hE with ⟨_, h⟩ | ⟨i, _, h, _⟩
      · exact h
      · omega
    obtain ⟨a, ha, hc⟩ := hes.get 9 5 (by decide) rfl
    have hc' : ∀ W, Only (fun _ => False) w W → W.cell? ⟨5, 0, none⟩ = some (.iface 87 (.pointer (some a))) := fun W ho => ho.cellv hc (fun h => h)
    have HC := Lib.hid hc'
    have HA : Hid (ErrV es (errV a) 10) := ErrV.err ha 10 rfl
    generalize (saysM b).1 = z at *
    generalize (saysM b).2.1 = k at *
    obtain rfl : k = true := by
      cases k <;> simp at hn ⊢
    rw [if_pos rfl]
    clear hn hz hE hP hes ha hc hc' hs
    go_enter Tryd.func18, Tryd.ntmps18
    go_wp2_with (go_at_call 7; (with_reducible refine HP.out.mono ?_); rintro e w1 ⟨rfl, ho1⟩; have HO1 := Lib.hid ho1; have c2 := HC.out _ ho1; clear ho1)
    go_quiet (fail)
    go_wp2
    go_ret2
    exact ⟨_, HA.out, rfl, HO1.out.drewN _⟩
  · rw [if_neg hz] at hn ⊢
    obtain ⟨a, rfl⟩ := hE.is_err hn
    have HE := Lib.hid hE
    generalize (saysM b).1 = z at *
    generalize (saysM b).2.1 = k at *
    generalize (saysM b).2.2 = y at *
    clear hn hz hE hP hes hs
    go_enter Tryd.func18, Tryd.ntmps18
    go_wp2_with (go_at_call 7; (with_reducible refine HP.out.mono ?_); rintro e w1 ⟨rfl, ho1⟩; have HO1 := Lib.hid ho1; clear ho1)
    go_ret2
    exact ⟨_, HE.out, rfl, HO1.out⟩

theorem mdTake_ok (hes : ErrsOf w mdSel es) (hh : TlAt w q can tm) (hcan : isMask can = true) (cap : Nat) (hs : Src w A n b) (hn : takeNum b = 0) :
    Calls Tryd.prog 18 #[.pointer (some ⟨q, 0, none⟩), .slice A n cap] w fun e w' => ∃ N, e = .returned (.tuple #[.slice (some ⟨N, 0, none⟩) 2 2, .nilIface]) ∧ Hid (w.heap.size ≤ N) ∧ Hid (Src w' (some ⟨N, 0, none⟩) 2 (bodyM (both (saysM b).1 can + 4))) ∧ Hid (TlAt w' q can (both (saysM b).1 can)) ∧ Hid (Only (· = q) w w') := by
  obtain ⟨E, hE, hP⟩ := mdParse_any hes cap hs
  have HP := Lib.hid hP
  unfold takeNum at hn
  by_cases hz : (saysM b).2.2 = 0
  · rw [if_pos hz] at hn
    rw [hz] at hE
    obtain rfl : E = .nilIface := by
      rcases hE with ⟨_, h⟩ | ⟨i, _, h, _⟩
      · exact h
      · omega
    have hm := saysM_mask hz
    have HH := Lib.hid hh
    generalize (saysM b).1 = z at *
    generalize (saysM b).2.1 = k at *
    obtain rfl : k = false := by
      cases k <;> simp at hn ⊢
    have ha := and_both hm hcan
    have hbm := both_mask hm hcan
    have ho4 := or_four hbm
    have hb := isMask_iff.1 hbm
    generalize both z can = y at *
    have HTl := Lib.hid (fun W => mdTell_any W (m := y + 4) (by omega) (by omega))
    clear hn hz hE hP hes hh hs hm hcan hbm hb
    go_enter Tryd.func18, Tryd.ntmps18
    go_wp2_with (first
      | (go_at_call 7; (with_reducible refine HP.out.mono ?_); rintro e w1 ⟨rfl, ho1⟩; have HO1 := Lib.hid ho1; have HB1 := Lib.hid (HH.out.same ho1); have c0 := Blk.cell HB1.out 0; have c1 := Blk.cell HB1.out 1; have f0 := Blk.frozen HB1.out 0; have f1 := Blk.frozen HB1.out 1; simp only [List.getElem?_cons_zero, List.getElem?_cons_succ] at c0 c1; have hlt := HB1.out.lt; clear ho1)
      | (go_at_call 26; (with_reducible refine (HTl.out _).mono ?_); rintro e w2 ⟨rfl, hs2, ho2⟩))
    go_ret2
    have hO1 : Only (· = q) w (w1.setCell ⟨q, 1, none⟩ (.int .i64 y)) := Only.setCell (S := (· = q)) (p := ⟨q, 1, none⟩) (HO1.out.mono (fun _ h => h.elim)) (.inl rfl) _
    refine ⟨_, rfl, ?_, ?_, ?_, hO1.trans ho2.out (fun _ h => h.elim)⟩
    · exact HO1.out.size
    · have h := hs2.out
      rw [setCell_size] at h
      exact h
    · exact Blk.only (Blk.setCell HB1.out 1 (.int .i64 y)) ho2.out (fun h => h)
  · rw [if_neg hz] at hn
    exact absurd hn hz
end
end Go.Proofs.YtefcgbkbgkllaaaDoor
