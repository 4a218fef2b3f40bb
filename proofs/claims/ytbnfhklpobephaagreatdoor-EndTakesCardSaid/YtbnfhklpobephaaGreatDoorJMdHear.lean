/- Several texts in one. -/
import Derived.Test.YtbnfhklpobephaaGreatDoorJNum
import Derived.Test.YtbnfhklpobephaaGreatDoorKAlloc
import Derived.Test.YtbnfhklpobephaaGreatDoorKTt
import Derived.Deep.RegionHeld3
/- Heads and tails: Set, and both ways to hear. -/
namespace Go.Proofs.YtbnfhklpobephaaGreatDoor
open Go Go.RowKit
set_option maxRecDepth 100000
set_option maxHeartbeats 4000000

/-- What Set answers: the error's number. -/
def setNum (m hm : Int) (wt : Bool) : Nat := if isMask m then (if wt then 10 else if hm = m then 8 else 0) else 5
/-- What a head that hears answers. -/
def hearNum (b : List UInt8) (wt : Bool) : Nat := if (saysM b).2.2 = 0 then (if (saysM b).2.1 && wt then 0 else 10) else (saysM b).2.2
/-- What a tail that hears answers. -/
def takeNum (b : List UInt8) : Nat := if (saysM b).2.2 = 0 then (if (saysM b).2.1 then 10 else 0) else (saysM b).2.2

section
variable {w : World} {es : List Addr} {A : Option Addr} {n : Nat} {b : List UInt8} {p q : Nat} {m hm can tm : Int} {wt : Bool}
theorem ErrV.is_err {E : Value} {k : Nat} (h : ErrV es E k) (hk : k ≠ 0) : ∃ a, E = .iface 409 (.pointer (some a)) := by
  rcases h with ⟨rfl, _⟩ | ⟨i, a, _, _, rfl⟩
  · exact absurd rfl hk
  · exact ⟨a, rfl⟩
theorem HdAt.lt (h : HdAt w p m wt) : p < w.heap.size := Blk.lt h
theorem TlAt.lt (h : TlAt w q can m) : q < w.heap.size := Blk.lt h
theorem HdAt.same {w' : World} (h : HdAt w p m wt) (ho : Only (fun _ => False) w w') : HdAt w' p m wt := Blk.only h ho (fun h => h)
theorem TlAt.same {w' : World} (h : TlAt w q can m) (ho : Only (fun _ => False) w w') : TlAt w' q can m := Blk.only h ho (fun h => h)
theorem HdAt.far {w' : World} (h : HdAt w p m wt) (ho : Only (· = q) w w') (hne : p ≠ q) : HdAt w' p m wt := Blk.only h ho hne
theorem TlAt.far {w' : World} (h : TlAt w q can m) (ho : Only (· = p) w w') (hne : q ≠ p) : TlAt w' q can m := Blk.only h ho hne

theorem mdSet_bad (hes : ErrsOf w mdSel es) (hh : HdAt w p hm wt) (h64 : In64 m) (hn : setNum m hm wt ≠ 0) :
    Calls Tryz.prog 123 #[.pointer (some ⟨p, 0, none⟩), .int .i64 m] w fun e w' => ∃ E, ErrV es E (setNum m hm wt) ∧ e = .returned (.tuple #[.slice none 0 0, E]) ∧ Only (fun _ => False) w w' := by
  have HR := Lib.hid (fun W => mdRight_any W h64)
  have c0 := Blk.cell hh 0
  have c1 := Blk.cell hh 1
  simp only [List.getElem?_cons_zero, List.getElem?_cons_succ] at c0 c1
  unfold setNum at hn ⊢
  cases hk : isMask m with
  | false =>
    rw [hk] at HR hn
    obtain ⟨a, ha, hc⟩ := hes.get 4 4 (by decide) rfl
    unfold errV at hc
    have HA : Hid (ErrV es (errV a) 5) := ErrV.err ha 5 rfl
    clear ha hes hn hk hh
    go_enter Tryz.func123, Tryz.ntmps123
    go_wp2_with (go_at_call 169; (with_reducible refine (HR.out _).mono ?_); rintro e w1 ⟨rfl, e1⟩; subst w1)
    go_quiet (fail)
    go_wp2
    go_ret2
    exact ⟨_, HA.out, rfl, (Only.refl _ _).drewN _⟩
  | true =>
    rw [hk] at HR hn
    cases wt with
    | true =>
      obtain ⟨a, ha, hc⟩ := hes.get 9 9 (by decide) rfl
      unfold errV at hc
      have HA : Hid (ErrV es (errV a) 10) := ErrV.err ha 10 rfl
      clear ha hes hn hk hh
      go_enter Tryz.func123, Tryz.ntmps123
      go_wp2_with (go_at_call 169; (with_reducible refine (HR.out _).mono ?_); rintro e w1 ⟨rfl, e1⟩; subst w1)
      go_quiet (fail)
      go_wp2
      go_ret2
      exact ⟨_, HA.out, rfl, (Only.refl _ _).drewN _⟩
    | false =>
      by_cases he : hm = m
      · subst he
        obtain ⟨a, ha, hc⟩ := hes.get 7 7 (by decide) rfl
        unfold errV at hc
        have HA : Hid (ErrV es (errV a) 8) := ErrV.err ha 8 rfl
        have e1 : (hm == hm) = true := by simp
        rw [if_pos rfl, if_neg (by simp), if_pos rfl]
        clear ha hes hn hk hh
        go_enter Tryz.func123, Tryz.ntmps123
        go_wp2_with (go_at_call 169; (with_reducible refine (HR.out _).mono ?_); rintro e w1 ⟨rfl, e1⟩; subst w1)
        go_quiet (fail)
        go_wp2
        go_ret2
        exact ⟨_, HA.out, rfl, (Only.refl _ _).drewN _⟩
      · exfalso
        simp [he] at hn

theorem mdSet_ok (hh : HdAt w p hm wt) (h64 : In64 m) (hn : setNum m hm wt = 0) :
    Calls Tryz.prog 123 #[.pointer (some ⟨p, 0, none⟩), .int .i64 m] w fun e w' => ∃ N, e = .returned (.tuple #[.slice (some ⟨N, 0, none⟩) 2 2, .nilIface]) ∧ Hid (w.heap.size ≤ N) ∧ Hid (Src w' (some ⟨N, 0, none⟩) 2 (bodyM m)) ∧ Hid (HdAt w' p m true) ∧ Hid (Only (· = p) w w') := by
  have HR := Lib.hid (fun W => mdRight_any W h64)
  unfold setNum at hn
  cases hk : isMask m with
  | false => rw [hk] at hn; simp at hn
  | true =>
    rw [hk] at HR hn
    cases wt with
    | true => simp at hn
    | false =>
      have hne : ¬ hm = m := fun h => by simp [h] at hn
      have hne1 : (m == hm) = false := by simp; omega
      have hb := isMask_iff.1 hk
      have HTl := Lib.hid (fun W => mdTell_any W (m := m) hb.1 (by omega))
      have c0 := Blk.cell hh 0
      have c1 := Blk.cell hh 1
      simp only [List.getElem?_cons_zero, List.getElem?_cons_succ] at c0 c1
      have f0 := Blk.frozen hh 0
      have f1 := Blk.frozen hh 1
      have HB := Lib.hid hh
      have hlt := HdAt.lt hh
      clear hh hn hk hb hne
      go_enter Tryz.func123, Tryz.ntmps123
      go_wp2_with (first
        | (go_at_call 169; (with_reducible refine (HR.out _).mono ?_); rintro e w1 ⟨rfl, e1⟩; subst w1)
        | (go_at_call 170; (with_reducible refine (HTl.out _).mono ?_); rintro e w2 ⟨rfl, hs2, ho2⟩))
      go_ret2
      have hO1 : Only (· = p) w ((w.setCell ⟨p, 0, none⟩ (.int .i64 m)).setCell ⟨p, 1, none⟩ (.bool true)) := Only.setCell (S := (· = p)) (p := ⟨p, 1, none⟩) (Only.setCell (S := (· = p)) (p := ⟨p, 0, none⟩) (Only.refl _ w) (.inl rfl) _) (.inl rfl) _
      refine ⟨_, rfl, ?_, ?_, ?_, hO1.trans ho2.out (fun _ h => h.elim)⟩
      · exact Nat.le_refl _
      · have h := hs2.out
        rw [setCell_size, setCell_size] at h
        exact h
      · have h1 := (Blk.setCell HB.out 0 (.int .i64 m)).setCell 1 (.bool true)
        exact Blk.only h1 ho2.out (fun h => h)

theorem mdHear_bad (hes : ErrsOf w mdSel es) (hh : HdAt w p hm wt) (cap : Nat) (hs : Src w A n b) (hn : hearNum b wt ≠ 0) :
    Calls Tryz.prog 237 #[.pointer (some ⟨p, 0, none⟩), .slice A n cap] w fun e w' => ∃ E, ErrV es E (hearNum b wt) ∧ e = .returned E ∧ Only (fun _ => False) w w' := by
  obtain ⟨E, hE, hP⟩ := mdParse_any hes cap hs
  have HP := Lib.hid hP
  unfold hearNum at hn ⊢
  by_cases hz : (saysM b).2.2 = 0
  · rw [if_pos hz] at hn ⊢
    rw [hz] at hE
    obtain rfl : E = .nilIface := by
      rcases hE with ⟨_, h⟩ | ⟨i, _, h, _⟩
      · exact h
      · omega
    obtain ⟨a, ha, hc⟩ := hes.get 9 9 (by decide) rfl
    have hc' : ∀ W, Only (fun _ => False) w W → W.cell? ⟨9, 0, none⟩ = some (.iface 409 (.pointer (some a))) := fun W ho => ho.cellv hc (fun h => h)
    have HC := Lib.hid hc'
    have HA : Hid (ErrV es (errV a) 10) := ErrV.err ha 10 rfl
    have HB : Hid (∀ W, Only (fun _ => False) w W → W.cell? ⟨p, 1, none⟩ = some (.bool wt)) := fun W ho => Blk.cell (hh.same ho) 1
    generalize (saysM b).1 = z at *
    generalize (saysM b).2.1 = k at *
    have hkw : (k && wt) = false := by
      cases h : (k && wt) with
      | false => rfl
      | true => rw [h] at hn; simp at hn
    rw [hkw, if_neg (by simp)]
    clear hn hz hE hP hes ha hc hc' hh hs
    cases k <;> cases wt
    case true.true => cases hkw
    all_goals
      clear hkw
      go_enter Tryz.func237, Tryz.ntmps237
      go_wp2_with (go_at_call 246; (with_reducible refine HP.out.mono ?_); rintro e w1 ⟨rfl, ho1⟩; have HO1 := Lib.hid ho1; have c1 := HB.out _ ho1; have c2 := HC.out _ ho1; clear ho1)
      go_ret
      exact ⟨_, HA.out, rfl, HO1.out⟩
  · rw [if_neg hz] at hn ⊢
    obtain ⟨a, rfl⟩ := hE.is_err hn
    have HE := Lib.hid hE
    generalize (saysM b).1 = z at *
    generalize (saysM b).2.1 = k at *
    generalize (saysM b).2.2 = y at *
    clear hn hz hE hP hes hh hs
    go_enter Tryz.func237, Tryz.ntmps237
    go_wp2_with (go_at_call 246; (with_reducible refine HP.out.mono ?_); rintro e w1 ⟨rfl, ho1⟩; have HO1 := Lib.hid ho1; clear ho1)
    go_ret
    exact ⟨_, HE.out, rfl, HO1.out⟩

theorem mdHear_ok (hes : ErrsOf w mdSel es) (hh : HdAt w p hm wt) (cap : Nat) (hs : Src w A n b) (hn : hearNum b wt = 0) :
    Calls Tryz.prog 237 #[.pointer (some ⟨p, 0, none⟩), .slice A n cap] w fun e w' => e = .returned .nilIface ∧ Hid (HdAt w' p (saysM b).1 false) ∧ Hid (Only (· = p) w w') := by
  obtain ⟨E, hE, hP⟩ := mdParse_any hes cap hs
  have HP := Lib.hid hP
  unfold hearNum at hn
  by_cases hz : (saysM b).2.2 = 0
  · rw [if_pos hz] at hn
    rw [hz] at hE
    obtain rfl : E = .nilIface := by
      rcases hE with ⟨_, h⟩ | ⟨i, _, h, _⟩
      · exact h
      · omega
    have HH := Lib.hid hh
    generalize (saysM b).1 = z at *
    generalize (saysM b).2.1 = k at *
    obtain ⟨rfl, rfl⟩ : k = true ∧ wt = true := by
      cases k <;> cases wt <;> simp at hn ⊢
    have hlt := hh.lt
    clear hn hz hE hP hes hh hs
    go_enter Tryz.func237, Tryz.ntmps237
    go_wp2_with (go_at_call 246; (with_reducible refine HP.out.mono ?_); rintro e w1 ⟨rfl, ho1⟩; have HO1 := Lib.hid ho1; have HB1 := Lib.hid (HH.out.same ho1); have c0 := Blk.cell HB1.out 0; have c1 := Blk.cell HB1.out 1; have f0 := Blk.frozen HB1.out 0; have f1 := Blk.frozen HB1.out 1; simp only [List.getElem?_cons_zero, List.getElem?_cons_succ] at c0 c1; clear ho1)
    go_ret
    refine ⟨rfl, ?_, ?_⟩
    · exact (Blk.setCell HB1.out 0 (.int .i64 z)).setCell 1 (.bool false)
    · exact Only.setCell (S := (· = p)) (p := ⟨p, 1, none⟩) (Only.setCell (S := (· = p)) (p := ⟨p, 0, none⟩) (HO1.out.mono (fun _ h => h.elim)) (.inl rfl) _) (.inl rfl) _
  · rw [if_neg hz] at hn
    exact absurd hn hz

theorem mdTake_bad (hes : ErrsOf w mdSel es) (cap : Nat) (hs : Src w A n b) (hn : takeNum b ≠ 0) :
    Calls Tryz.prog 236 #[.pointer (some ⟨q, 0, none⟩), .slice A n cap] w fun e w' => ∃ E, ErrV es E (takeNum b) ∧ e = .returned (.tuple #[.slice none 0 0, E]) ∧ Only (fun _ => False) w w' := by
  obtain ⟨E, hE, hP⟩ := mdParse_any hes cap hs
  have HP := Lib.hid hP
  unfold takeNum at hn ⊢
  by_cases hz : (saysM b).2.2 = 0
  · rw [if_pos hz] at hn ⊢
    rw [hz] at hE
    obtain rfl : E = .nilIface := by
      rcases hE with ⟨_, h⟩ | ⟨i, _, h, _⟩
      · exact h
      · omega
    obtain ⟨a, ha, hc⟩ := hes.get 9 9 (by decide) rfl
    have hc' : ∀ W, Only (fun _ => False) w W → W.cell? ⟨9, 0, none⟩ = some (.iface 409 (.pointer (some a))) := fun W ho => ho.cellv hc (fun h => h)
    have HC := Lib.hid hc'
    have HA : Hid (ErrV es (errV a) 10) := ErrV.err ha 10 rfl
    generalize (saysM b).1 = z at *
    generalize (saysM b).2.1 = k at *
    obtain rfl : k = true := by
      cases k <;> simp at hn ⊢
    rw [if_pos rfl]
    clear hn hz hE hP hes ha hc hc' hs
    go_enter Tryz.func236, Tryz.ntmps236
    go_wp2_with (go_at_call 246; (with_reducible refine HP.out.mono ?_); rintro e w1 ⟨rfl, ho1⟩; have HO1 := Lib.hid ho1; have c2 := HC.out _ ho1; clear ho1)
    go_quiet (fail)
    go_wp2
    go_ret2
    exact ⟨_, HA.out, rfl, HO1.out.drewN _⟩
  · rw [if_neg hz] at hn ⊢
    obtain ⟨a, rfl⟩ := hE.is_err hn
    have HE := Lib.hid hE
    generalize (saysM b).1 = z at *
    generalize (saysM b).2.1 = k at *
    generalize (saysM b).2.2 = y at *
    clear hn hz hE hP hes hs
    go_enter Tryz.func236, Tryz.ntmps236
    go_wp2_with (go_at_call 246; (with_reducible refine HP.out.mono ?_); rintro e w1 ⟨rfl, ho1⟩; have HO1 := Lib.hid ho1; clear ho1)
    go_ret2
    exact ⟨_, HE.out, rfl, HO1.out⟩

theorem mdTake_ok (hes : ErrsOf w mdSel es) (hh : TlAt w q can tm) (hcan : isMask can = true) (cap : Nat) (hs : Src w A n b) (hn : takeNum b = 0) :
    Calls Tryz.prog 236 #[.pointer (some ⟨q, 0, none⟩), .slice A n cap] w fun e w' => ∃ N, e = .returned (.tuple #[.slice (some ⟨N, 0, none⟩) 2 2, .nilIface]) ∧ Hid (w.heap.size ≤ N) ∧ Hid (Src w' (some ⟨N, 0, none⟩) 2 (bodyM (both (saysM b).1 can + 4))) ∧ Hid (TlAt w' q can (both (saysM b).1 can)) ∧ Hid (Only (· = q) w w') := by
  obtain ⟨E, hE, hP⟩ := mdParse_any hes cap hs
  have HP := Lib.hid hP
  unfold takeNum at hn
  by_cases hz : (saysM b).2.2 = 0
  · rw [if_pos hz] at hn
    rw [hz] at hE
    obtain rfl : E = .nilIface := by
      rcases hE with ⟨_, h⟩ | ⟨i, _, h, _⟩
      · exact h
      · omega
    have hm := saysM_mask hz
    have HH := Lib.hid hh
    generalize (saysM b).1 = z at *
    generalize (saysM b).2.1 = k at *
    obtain rfl : k = false := by
      cases k <;> simp at hn ⊢
    have ha := and_both hm hcan
    have hbm := both_mask hm hcan
    have ho4 := or_four hbm
    have hb := isMask_iff.1 hbm
    generalize both z can = y at *
    have HTl := Lib.hid (fun W => mdTell_any W (m := y + 4) (by omega) (by omega))
    clear hn hz hE hP hes hh hs hm hcan hbm hb
    go_enter Tryz.func236, Tryz.ntmps236
    go_wp2_with (first
      | (go_at_call 246; (with_reducible refine HP.out.mono ?_); rintro e w1 ⟨rfl, ho1⟩; have HO1 := Lib.hid ho1; have HB1 := Lib.hid (HH.out.same ho1); have c0 := Blk.cell HB1.out 0; have c1 := Blk.cell HB1.out 1; have f0 := Blk.frozen HB1.out 0; have f1 := Blk.frozen HB1.out 1; simp only [List.getElem?_cons_zero, List.getElem?_cons_succ] at c0 c1; have hlt := HB1.out.lt; clear ho1)
      | (go_at_call 170; (with_reducible refine (HTl.out _).mono ?_); rintro e w2 ⟨rfl, hs2, ho2⟩))
    go_ret2
    have hO1 : Only (· = q) w (w1.setCell ⟨q, 1, none⟩ (.int .i64 y)) := Only.setCell (S := (· = q)) (p := ⟨q, 1, none⟩) (HO1.out.mono (fun _ h => h.elim)) (.inl rfl) _
    refine ⟨_, rfl, ?_, ?_, ?_, hO1.trans ho2.out (fun _ h => h.elim)⟩
    · exact HO1.out.size
    · have h := hs2.out
      rw [setCell_size] at h
      exact h
    · exact Blk.only (Blk.setCell HB1.out 1 (.int .i64 y)) ho2.out (fun h => h)
  · rw [if_neg hz] at hn
    exact absurd hn hz
end
end Go.Proofs.YtbnfhklpobephaaGreatDoor
/- Within a block: heads (from place 108 on) and tails (from place 110 on): Hear, Mask, Waits. -/
namespace Go.Proofs.YtbnfhklpobephaaGreatDoor
open Go Go.RowKit
set_option maxRecDepth 100000
set_option maxHeartbeats 4000000

/-- A head, in a block. -/
@[reducible] def HeIn (w : World) (p mo : Nat) (t : TypeId) (pre post : List Value) (m : Int) (b : Bool) : Prop := InB w p t pre post mo [.int .i64 m, .bool b]
/-- A tail. -/
@[reducible] def TaIn (w : World) (q mo : Nat) (t : TypeId) (pre post : List Value) (can m : Int) : Prop := InB w q t pre post mo [.int .i64 can, .int .i64 m]
section
variable {w : World} {es : List Addr} {A : Option Addr} {n : Nat} {b : List UInt8} {p q mo : Nat} {m hm can tm : Int} {wt : Bool} {t : TypeId} {pre post : List Value}
theorem heMask_any (h : HeIn w p mo t pre post m wt) : Calls Tryz.prog 106 #[.pointer (some ⟨p, mo, none⟩)] w fun e w' => e = .returned (.int .i64 m) ∧ w' = w := by
  have c0 : w.cell? ⟨p, mo, none⟩ = some (.int .i64 m) := h.val (i := 0) rfl
  clear h
  go_enter Tryz.func106, Tryz.ntmps106
  go_wp2
  go_ret
  exact ⟨rfl, rfl⟩
theorem heWaits_any (h : HeIn w p mo t pre post m wt) : Calls Tryz.prog 110 #[.pointer (some ⟨p, mo, none⟩)] w fun e w' => e = .returned (.bool wt) ∧ w' = w := by
  have c1 : w.cell? ⟨p, mo + 1, none⟩ = some (.bool wt) := h.val (i := 1) rfl
  clear h
  go_enter Tryz.func110, Tryz.ntmps110
  go_wp2
  go_ret
  exact ⟨rfl, rfl⟩
theorem taMask_any (h : TaIn w q mo t pre post can m) : Calls Tryz.prog 107 #[.pointer (some ⟨q, mo, none⟩)] w fun e w' => e = .returned (.int .i64 m) ∧ w' = w := by
  have c1 : w.cell? ⟨q, mo + 1, none⟩ = some (.int .i64 m) := h.val (i := 1) rfl
  clear h
  go_enter Tryz.func107, Tryz.ntmps107
  go_wp2
  go_ret
  exact ⟨rfl, rfl⟩
theorem heHear_bad (hes : ErrsOf w mdSel es) (hh : HeIn w p mo t pre post hm wt) (cap : Nat) (hs : Src w A n b) (hn : hearNum b wt ≠ 0) :
    Calls Tryz.prog 237 #[.pointer (some ⟨p, mo, none⟩), .slice A n cap] w fun e w' => ∃ E, ErrV es E (hearNum b wt) ∧ e = .returned E ∧ Only (fun _ => False) w w' := by
  obtain ⟨E, hE, hP⟩ := mdParse_any hes cap hs
  have HP := Lib.hid hP
  unfold hearNum at hn ⊢
  by_cases hz : (saysM b).2.2 = 0
  · rw [if_pos hz] at hn ⊢
    rw [hz] at hE
    obtain rfl : E = .nilIface := by
      rcases hE with ⟨_, h⟩ | ⟨i, _, h, _⟩
      · exact h
      · omega
    obtain ⟨a, ha, hc⟩ := hes.get 9 9 (by decide) rfl
    have hc' : ∀ W, Only (fun _ => False) w W → W.cell? ⟨9, 0, none⟩ = some (.iface 409 (.pointer (some a))) := fun W ho => ho.cellv hc (fun h => h)
    have HC := Lib.hid hc'
    have HA : Hid (ErrV es (errV a) 10) := ErrV.err ha 10 rfl
    have HB : Hid (∀ W, Only (fun _ => False) w W → W.cell? ⟨p, mo + 1, none⟩ = some (.bool wt)) := fun W ho => (hh.same ho).val (i := 1) rfl
    generalize (saysM b).1 = z at *
    generalize (saysM b).2.1 = k at *
    have hkw : (k && wt) = false := by
      cases h : (k && wt) with
      | false => rfl
      | true => rw [h] at hn; simp at hn
    rw [hkw, if_neg (by simp)]
    clear hn hz hE hP hes ha hc hc' hh hs
    cases k <;> cases wt
    case true.true => cases hkw
    all_goals
      clear hkw
      go_enter Tryz.func237, Tryz.ntmps237
      go_wp2_with (go_at_call 246; (with_reducible refine HP.out.mono ?_); rintro e w1 ⟨rfl, ho1⟩; have HO1 := Lib.hid ho1; have c1 := HB.out _ ho1; have c2 := HC.out _ ho1; clear ho1)
      go_ret
      exact ⟨_, HA.out, rfl, HO1.out⟩
  · rw [if_neg hz] at hn ⊢
    obtain ⟨a, rfl⟩ := hE.is_err hn
    have HE := Lib.hid hE
    generalize (saysM b).1 = z at *
    generalize (saysM b).2.1 = k at *
    generalize (saysM b).2.2 = y at *
    clear hn hz hE hP hes hh hs
    go_enter Tryz.func237, Tryz.ntmps237
    go_wp2_with (go_at_call 246; (with_reducible refine HP.out.mono ?_); rintro e w1 ⟨rfl, ho1⟩; have HO1 := Lib.hid ho1; clear ho1)
    go_ret
    exact ⟨_, HE.out, rfl, HO1.out⟩

theorem heHear_ok (hes : ErrsOf w mdSel es) (hh : HeIn w p mo t pre post hm wt) (cap : Nat) (hs : Src w A n b) (hn : hearNum b wt = 0) :
    Calls Tryz.prog 237 #[.pointer (some ⟨p, mo, none⟩), .slice A n cap] w fun e w' => e = .returned .nilIface ∧ Hid (HeIn w' p mo t pre post (saysM b).1 false) ∧ Hid (Only (· = p) w w') := by
  obtain ⟨E, hE, hP⟩ := mdParse_any hes cap hs
  have HP := Lib.hid hP
  unfold hearNum at hn
  by_cases hz : (saysM b).2.2 = 0
  · rw [if_pos hz] at hn
    rw [hz] at hE
    obtain rfl : E = .nilIface := by
      rcases hE with ⟨_, h⟩ | ⟨i, _, h, _⟩
      · exact h
      · omega
    have HH := Lib.hid hh
    generalize (saysM b).1 = z at *
    generalize (saysM b).2.1 = k at *
    obtain ⟨rfl, rfl⟩ : k = true ∧ wt = true := by
      cases k <;> cases wt <;> simp at hn ⊢
    have hlt := hh.lt
    clear hn hz hE hP hes hh hs
    go_enter Tryz.func237, Tryz.ntmps237
    go_wp2_with (go_at_call 246; (with_reducible refine HP.out.mono ?_); rintro e w1 ⟨rfl, ho1⟩; have HO1 := Lib.hid ho1; have HB1 := Lib.hid (HH.out.same ho1); have c0 : w1.cell? ⟨p, mo, none⟩ = some _ := HB1.out.val (i := 0) rfl; have c1 : w1.cell? ⟨p, mo + 1, none⟩ = some _ := HB1.out.val (i := 1) rfl; have f0 := HB1.out.frozen (mo); have f1 := HB1.out.frozen (mo + 1); clear ho1)
    go_ret
    refine ⟨rfl, ?_, ?_⟩
    · exact (HB1.out.setCell (i := 0) (by simp) (.int .i64 z)).setCell (i := 1) (by simp) (.bool false)
    · exact Only.setCell (S := (· = p)) (p := ⟨p, mo + 1, none⟩) (Only.setCell (S := (· = p)) (p := ⟨p, mo, none⟩) (HO1.out.mono (fun _ h => h.elim)) (.inl rfl) _) (.inl rfl) _
  · rw [if_neg hz] at hn
    exact absurd hn hz

theorem taHear_bad (hes : ErrsOf w mdSel es) (cap : Nat) (hs : Src w A n b) (hn : takeNum b ≠ 0) :
    Calls Tryz.prog 236 #[.pointer (some ⟨q, mo, none⟩), .slice A n cap] w fun e w' => ∃ E, ErrV es E (takeNum b) ∧ e = .returned (.tuple #[.slice none 0 0, E]) ∧ Only (fun _ => False) w w' := by
  obtain ⟨E, hE, hP⟩ := mdParse_any hes cap hs
  have HP := Lib.hid hP
  unfold takeNum at hn ⊢
  by_cases hz : (saysM b).2.2 = 0
  · rw [if_pos hz] at hn ⊢
    rw [hz] at hE
    obtain rfl : E = .nilIface := by
      rcases hE with ⟨_, h⟩ | ⟨i, _, h, _⟩
      · exact h
      · omega
    obtain ⟨a, ha, hc⟩ := hes.get 9 9 (by decide) rfl
    have hc' : ∀ W, Only (fun _ => False) w W → W.cell? ⟨9, 0, none⟩ = some (.iface 409 (.pointer (some a))) := fun W ho => ho.cellv hc (fun h => h)
    have HC := Lib.hid hc'
    have HA : Hid (ErrV es (errV a) 10) := ErrV.err ha 10 rfl
    generalize (saysM b).1 = z at *
    generalize (saysM b).2.1 = k at *
    obtain rfl : k = true := by
      cases k <;> simp at hn ⊢
    rw [if_pos rfl]
    clear hn hz hE hP hes ha hc hc' hs
    go_enter Tryz.func236, Tryz.ntmps236
    go_wp2_with (go_at_call 246; (with_reducible refine HP.out.mono ?_); rintro e w1 ⟨rfl, ho1⟩; have HO1 := Lib.hid ho1; have c2 := HC.out _ ho1; clear ho1)
    go_quiet (fail)
    go_wp2
    go_ret2
    exact ⟨_, HA.out, rfl, HO1.out.drewN _⟩
  · rw [if_neg hz] at hn ⊢
    obtain ⟨a, rfl⟩ := hE.is_err hn
    have HE := Lib.hid hE
    generalize (saysM b).1 = z at *
    generalize (saysM b).2.1 = k at *
    generalize (saysM b).2.2 = y at *
    clear hn hz hE hP hes hs
    go_enter Tryz.func236, Tryz.ntmps236
    go_wp2_with (go_at_call 246; (with_reducible refine HP.out.mono ?_); rintro e w1 ⟨rfl, ho1⟩; have HO1 := Lib.hid ho1; clear ho1)
    go_ret2
    exact ⟨_, HE.out, rfl, HO1.out⟩

theorem taHear_ok (hes : ErrsOf w mdSel es) (hh : TaIn w q mo t pre post can tm) (hcan : isMask can = true) (cap : Nat) (hs : Src w A n b) (hn : takeNum b = 0) :
    Calls Tryz.prog 236 #[.pointer (some ⟨q, mo, none⟩), .slice A n cap] w fun e w' => ∃ N, e = .returned (.tuple #[.slice (some ⟨N, 0, none⟩) 2 2, .nilIface]) ∧ Hid (w.heap.size ≤ N) ∧ Hid (Src w' (some ⟨N, 0, none⟩) 2 (bodyM (both (saysM b).1 can + 4))) ∧ Hid (TaIn w' q mo t pre post can (both (saysM b).1 can)) ∧ Hid (Only (· = q) w w') := by
  obtain ⟨E, hE, hP⟩ := mdParse_any hes cap hs
  have HP := Lib.hid hP
  unfold takeNum at hn
  by_cases hz : (saysM b).2.2 = 0
  · rw [if_pos hz] at hn
    rw [hz] at hE
    obtain rfl : E = .nilIface := by
      rcases hE with ⟨_, h⟩ | ⟨i, _, h, _⟩
      · exact h
      · omega
    have hm := saysM_mask hz
    have HH := Lib.hid hh
    generalize (saysM b).1 = z at *
    generalize (saysM b).2.1 = k at *
    obtain rfl : k = false := by
      cases k <;> simp at hn ⊢
    have ha := and_both hm hcan
    have hbm := both_mask hm hcan
    have ho4 := or_four hbm
    have hb := isMask_iff.1 hbm
    generalize both z can = y at *
    have HTl := Lib.hid (fun W => mdTell_any W (m := y + 4) (by omega) (by omega))
    clear hn hz hE hP hes hh hs hm hcan hbm hb
    go_enter Tryz.func236, Tryz.ntmps236
    go_wp2_with (first
      | (go_at_call 246; (with_reducible refine HP.out.mono ?_); rintro e w1 ⟨rfl, ho1⟩; have HO1 := Lib.hid ho1; have HB1 := Lib.hid (HH.out.same ho1); have c0 : w1.cell? ⟨q, mo, none⟩ = some _ := HB1.out.val (i := 0) rfl; have c1 : w1.cell? ⟨q, mo + 1, none⟩ = some _ := HB1.out.val (i := 1) rfl; have f0 := HB1.out.frozen (mo); have f1 := HB1.out.frozen (mo + 1); have hlt := HB1.out.lt; clear ho1)
      | (go_at_call 170; (with_reducible refine (HTl.out _).mono ?_); rintro e w2 ⟨rfl, hs2, ho2⟩))
    go_ret2
    have hO1 : Only (· = q) w (w1.setCell ⟨q, mo + 1, none⟩ (.int .i64 y)) := Only.setCell (S := (· = q)) (p := ⟨q, mo + 1, none⟩) (HO1.out.mono (fun _ h => h.elim)) (.inl rfl) _
    refine ⟨_, rfl, ?_, ?_, ?_, hO1.trans ho2.out (fun _ h => h.elim)⟩
    · exact HO1.out.size
    · have h := hs2.out
      rw [setCell_size] at h
      exact h
    · exact (HB1.out.setCell (i := 1) (by simp) (.int .i64 y)).same ho2.out
  · rw [if_neg hz] at hn
    exact absurd hn hz
end
end Go.Proofs.YtbnfhklpobephaaGreatDoor
/- Within a block: a side's Waits (from place 18 on). -/
namespace Go.Proofs.YtbnfhklpobephaaGreatDoor
open Go Go.RowKit
set_option maxRecDepth 100000
set_option maxHeartbeats 4000000

theorem idx_char (W : World) {cs : List Value} {S : Sd} (h : ScC cs S) {i : Nat} (hi : i < 18) : (Instr.index 112 (.agg cs.toArray) (.int .i64 (i : Int))).run Tryz.prog W = .ok (.agg (S i).cs.toArray) W := by
  have hu := Tryz.underlying112
  have hs : ∀ W, (sizeOf 111).run Tryz.prog W = .ok 5 W := fun W => by kernel_rfl
  have hg : ∀ W, (isAgg 111).run Tryz.prog W = .ok true W := fun W => by kernel_rfl
  have hi2 : (i : Int) < 18 := by omega
  have he : List.take 5 (List.drop (i * 5) cs) = (S i).cs := by
    apply List.ext_getElem?
    intro j
    by_cases hj : j < 5
    · have hv : (S i).cs[j]? = some ((S i).cs[j]'hj) := List.getElem?_eq_getElem _
      rw [hv, ← h.at_ i j _ hi hv, List.getElem?_take, if_pos hj, List.getElem?_drop]
    · rw [List.getElem?_take, if_neg hj, List.getElem?_eq_none (by simp; omega)]
  simp [Instr.index, run_underlying hu, asIntOf, go_sem, part, hs, hg]
  rw [if_pos hi, he]
theorem size_arr : (Tryz.prog.info? 112).map (·.size) = some 90 := by kernel_rfl

theorem siWaits_any {W : World} {p mo : Nat} {t : TypeId} {pre post cs : List Value} {S : Sd} (hB : InB W p t pre post mo cs) (hC : ScC cs S) : Calls Tryz.prog 109 #[.pointer (some ⟨p, mo, none⟩)] W fun e w' => e = .returned (.int .i64 (waitsS S : Int)) ∧ Only (fun _ => False) W w' := by
  have HB := Lib.hid hB
  have HC := Lib.hid hC
  have hsz : (Tryz.prog.info? 112).map (·.size) = some cs.length := by rw [hC.len]; exact size_arr
  have hix : ∀ W i, i < 18 → _ := fun W i (hi : i < 18) => idx_char W hC hi
  have HX := Lib.hid hix
  have HSz := Lib.hid hsz
  clear hB hC hix hsz
  go_enter Tryz.func109, Tryz.ntmps109
  go_wp2_with (first
    | ((with_reducible show wpList _ _ _ (⟨some 9, _, _, _, _, _⟩ :: _) _ _); refine wpList_load_mid rfl 112 _ rfl p mo rfl cs _ HB.out.range Tryz.underlying112 rfl HSz.out ?_)
    | fail)
  go_loopw [3, 10] (fun n i w => ∃ k : Nat, k ≤ 18 ∧ n = .int .i64 (waitsTo S k : Int) ∧ i = .int .i64 (k : Int) ∧ Hid (Only (fun _ => False) W w)) (fun _ i _ => 18 - (intOf i).toNat)
  case atStart => exact ⟨0, Nat.zero_le _, rfl, rfl, Only.refl _ _⟩
  case round =>
    obtain ⟨k, hk, rfl, rfl, hrel⟩ := hrel
    by_cases hlt : k < 18
    · have hlt2 : (k : Int) < 18 := by omega
      have hx := fun W => HX.out W k hlt
      obtain ⟨b, hb⟩ : ∃ b, b = (S k).waits := ⟨_, rfl⟩
      obtain ⟨v0, v1, v2, v3, hv⟩ : ∃ v0 v1 v2 v3 : Int, (S k).cs = [.int .i64 v0, .int .i64 v1, .int .i64 v2, .int .i64 v3, .bool b] := ⟨_, _, _, _, by rw [hb]⟩
      have hn := waitsTo_le S k
      have hs : waitsTo S (k + 1) = waitsTo S k + if b then 1 else 0 := by rw [hb]; rfl
      obtain ⟨n, hnn⟩ : ∃ n, n = waitsTo S k := ⟨_, rfl⟩
      rw [← hnn] at hn hs ⊢
      rw [hv] at hx
      have HS := Lib.hid hs
      clear hb hv hs hnn
      cases b
      all_goals
        go_wp2
        go_roundw
        case rel => exact ⟨k + 1, by omega, by rw [HS.out]; go_num, by go_num, hrel.out.alloc _⟩
        case measure => simp [intOf]; omega
    · obtain rfl : k = 18 := by omega
      go_wp2
      go_ret
      exact ⟨rfl, hrel.out⟩
end Go.Proofs.YtbnfhklpobephaaGreatDoor
/- 'return T{}, err': a region that draws its order and stores a struct's zero into the result, and loads an error. -/
namespace Go.Proofs.YtbnfhklpobephaaGreatDoor
open Go Go.RowKit

/-- A region of four operations: a struct's value, the load of a variable of one cell, the store of that value, a slot for what was loaded. -/
theorem wp_refuse {P : Program} {id : Nat} {o0 o1 o2 o3 : Oper} {a : Act} {w : World} {Q : Exit → Act → World → Prop} (T E : TypeId) (x : Operand) (g rx r0 r1 : Nat) (N : Nat) (v : Value) (zero : List Value)
    (hm : P.follows .mixedOrders = true)
    (n0 : o0.guard = none) (n1 : o1.guard = none) (n2 : o2.guard = none) (n3 : o3.guard = none)
    (e0 : o0.op = .build T #[]) (d0 : o0.dst = some r0) (e1 : o1.op = .load E x) (d1 : o1.dst = some r1) (e2 : o2.op = .store T (.tmp rx) (.tmp r0)) (e3 : o3.op = .assign (.tmp r1))
    (hs : Region.noSelect #[o0, o1, o2, o3] = true) (f0 : Region.free .any #[o0, o1, o2, o3] #[false, false, false, false] 0 = true) (c0 : (Region.ready .any #[o0, o1, o2, o3] #[false, false, false, false]).contains 0 = true)
    (f1 : Region.free .any #[o0, o1, o2, o3] #[true, false, false, false] 1 = true) (c1 : (Region.ready .any #[o0, o1, o2, o3] #[true, false, false, false]).contains 1 = true)
    (c2 : Region.ready .any #[o0, o1, o2, o3] #[true, true, false, false] = [2]) (c3 : Region.ready .any #[o0, o1, o2, o3] #[true, true, true, false] = [3]) (c4 : Region.ready .any #[o0, o1, o2, o3] #[true, true, true, true] = [])
    (hbt : P.built T [] = some zero.toArray) (hi : (P.info? T).map (·.size) = some zero.length) (h1 : ∀ v ∈ zero, v.oneCell' = true)
    (hl : ∀ W : World, W.cell? ⟨g, 0, none⟩ = some v → (Instr.loadAt E (.pointer (some ⟨g, 0, none⟩))).run P W = .ok v W)
    (hx : ((a.put (some r0) (.agg zero.toArray))).eval x = .pointer (some ⟨g, 0, none⟩)) (hc : w.cell? ⟨g, 0, none⟩ = some v)
    (hr0 : ((a.put (some r0) (.agg zero.toArray)).put (some r1) v).eval (.tmp r0) = .agg zero.toArray) (hrx : ((a.put (some r0) (.agg zero.toArray)).put (some r1) v).eval (.tmp rx) = .pointer (some ⟨N, 0, none⟩))
    (hr1 : (((a.put (some r0) (.agg zero.toArray)).put (some r1) v).put o2.dst undef).eval (.tmp r1) = v)
    {old : List Value} {t : TypeId} (hb : Blk w N t old) (hold : old.length = zero.length) (hne : g ≠ N)
    (h : ∀ W', Hid (Blk W' N t zero) → Hid (Only (· = N) w W') → Q .normal ((((a.put (some r0) (.agg zero.toArray)).put (some r1) v).put o2.dst undef).put o3.dst v) W') :
    (Code.region id #[o0, o1, o2, o3] true).wp P Q a w := by
  refine wp_region_noPanic ?_
  refine wp_region_held_drew (S := fun W => W.cell? ⟨g, 0, none⟩ = some v) hm hc (fun hHeld => ?_)
  refine wpAnyH_take (fuel := 3) (i := 0) (oi := o0) (v := .agg zero.toArray) rfl hs f0 c0 (fun _ _ _ h => h) (.inl ⟨by unfold Region.wanted; rw [n0], fun W hW => ?_⟩) hHeld ?_
  · unfold execOp
    simp only [e0, Sem.run_bind, Array.map_empty, run_build W T #[] zero.toArray hbt, Result.andThen_ok]
    rfl
  rw [d0]
  refine wpAnyH_take (fuel := 2) (i := 1) (oi := o1) (v := v) rfl hs f1 c1 (fun _ _ _ h => h) (.inl ⟨by unfold Region.wanted; rw [n1], fun W hW => ?_⟩) hHeld ?_
  · unfold execOp
    simp only [e1, hx, Sem.run_bind, hl W hW, Result.andThen_ok]
    rfl
  rw [d1]
  refine wpAnyH_ready (fuel := 1) (rs := [2]) c2 (by simp) ?_
  refine AllReadyH.cons (o := o2) rfl (fun K hK => ?_) AllReadyH.nil
  refine step_storeR T (.tmp rx) (.tmp r0) e2 (by unfold Region.wanted; rw [n2]) N hrx zero hr0 t old hb.drew hi hold h1 ?_
  intro W5 hB5 hz5 ho5
  refine hK.out _ _ (ho5.cellv hc hne) (fun hHeld => ?_)
  refine wpAnyH_ready (fuel := 0) (rs := [3]) c3 (by simp) ?_
  refine AllReadyH.cons (o := o3) rfl (fun K' hK' => ?_) AllReadyH.nil
  rw [if_pos (by unfold Region.wanted; rw [n3])]
  unfold Oper.wp execOp
  simp only [e3, hr1, Sem.run_pure]
  refine hK'.out _ _ hHeld (fun _ => wpAnyH_done c4 (NoPanic.normal (h W5 hB5 ?_)) _)
  exact ((Only.refl (· = N) w).drew).trans ho5 (fun i hi => .inl hi)
/-- An error that a variable holds, loaded. -/
theorem load_err {g : Nat} {u : TypeId} {x : Value} (W : World) (h : W.cell? ⟨g, 0, none⟩ = some (.iface u x)) : (Instr.loadAt 38 (.pointer (some ⟨g, 0, none⟩))).run Tryz.prog W = .ok (.iface u x) W := by
  simp [Instr.loadAt, Instr.sureAddr, go_sem, h]
end Go.Proofs.YtbnfhklpobephaaGreatDoor
