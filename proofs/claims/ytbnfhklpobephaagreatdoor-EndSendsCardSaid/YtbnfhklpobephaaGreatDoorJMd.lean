/- Several texts in one. -/
import Derived.Test.YtbnfhklpobephaaGreatDoorJSnList
import Derived.Test.YtbnfhklpobephaaGreatDoorJTexts
import Derived.BigQuiet
import Derived.Test.YtbnfhklpobephaaGreatDoorJSnIn
import Derived.Test.YtbnfhklpobephaaGreatDoorJSc
/- Modes: what a number is, a body told, heads and tails in memory, what they have. -/
namespace Go.Proofs.YtbnfhklpobephaaGreatDoor
open Go Go.RowKit
set_option maxRecDepth 100000
set_option maxHeartbeats 4000000

theorem mdRight_any (w : World) {m : Int} (hm : In64 m) : Calls Tryz.prog 169 #[.int .i64 m] w fun e w' => e = .returned (.bool (isMask m)) ∧ w' = w := by
  have h := right_bits hm
  obtain ⟨z, hz⟩ : ∃ z, z = bits .andNot .i64 m 27 := ⟨_, rfl⟩
  rw [← hz] at h
  have hb := hz.symm
  obtain ⟨p, hp⟩ : ∃ p, p = isMask m := ⟨_, rfl⟩
  rw [← hp] at h ⊢
  have h2 : decide (z = 0) = p := by rw [← h]; rfl
  clear hz hp
  cases p
  all_goals
    go_enter Tryz.func169, Tryz.ntmps169
    go_wp2
    go_ret
    exact ⟨rfl, rfl⟩

theorem mdTell_any (w : World) {m : Int} (h0 : 0 ≤ m) (h1 : m ≤ 255) : Calls Tryz.prog 170 #[.int .i64 m] w fun e w' => e = .returned (.slice (some ⟨w.heap.size, 0, none⟩) 2 2) ∧ Hid (Src w' (some ⟨w.heap.size, 0, none⟩) 2 (bodyM m)) ∧ Hid (Only (fun _ => False) w w') := by
  have hb : (#[.int .u8 1, .int .u8 m] : Array Value) = ((bodyM m).map B8).toArray := by
    simp only [bodyM, List.map_cons, List.map_nil, B8, b8_int h0 h1]
    rfl
  go_enter Tryz.func170, Tryz.ntmps170
  go_wp2
  go_ret
  exact ⟨rfl, src_new w (bodyM m) _ 5 _ 2 rfl rfl, (Only.refl _ _).alloc _⟩

/-- A head, in memory. -/
def HdAt (w : World) (p : Nat) (m : Int) (b : Bool) : Prop := Blk w p 116 [.int .i64 m, .bool b]
/-- A tail. -/
def TlAt (w : World) (q : Nat) (can m : Int) : Prop := Blk w q 118 [.int .i64 can, .int .i64 m]

theorem mdNewHead_any (w : World) : Calls Tryz.prog 136 #[] w fun e w' => e = .returned (.pointer (some ⟨w.heap.size, 0, none⟩)) ∧ Hid (HdAt w' w.heap.size 0 false) ∧ Hid (w'.heap.size = w.heap.size + 1) ∧ Hid (Only (fun _ => False) w w') := by
  go_enter Tryz.func136, Tryz.ntmps136
  go_wp2
  go_ret
  exact ⟨rfl, Blk.new w _ [.int .i64 0, .bool false], show (w.alloc _).heap.size = _ by simp, (Only.refl _ _).alloc _⟩
theorem mdNewTail_any (w : World) (can : Int) : Calls Tryz.prog 137 #[.int .i64 can] w fun e w' => e = .returned (.pointer (some ⟨w.heap.size, 0, none⟩)) ∧ Hid (TlAt w' w.heap.size (canOf can) 0) ∧ Hid (w'.heap.size = w.heap.size + 1) ∧ Hid (Only (fun _ => False) w w') := by
  have hb : bits .and .i64 can 27 = canOf can := rfl
  go_enter Tryz.func137, Tryz.ntmps137
  go_wp2
  go_ret
  exact ⟨rfl, Blk.new w _ [.int .i64 (canOf can), .int .i64 0], show (w.alloc _).heap.size = _ by simp, (Only.refl _ _).alloc _⟩

end Go.Proofs.YtbnfhklpobephaaGreatDoor
/- What a body says: the program's Parse of any bytes. -/
namespace Go.Proofs.YtbnfhklpobephaaGreatDoor
open Go Go.RowKit
set_option maxRecDepth 100000
set_option maxHeartbeats 4000000

/-- The errors that modes tell: by their places among the sixteen. -/
@[reducible] def mdSel : List Nat := [2, 3, 4, 7, 8, 9]

section
variable {w : World} {es : List Addr} {A : Option Addr} {n : Nat} {b : List UInt8} {x y : UInt8}
/-- The two bytes lie side by side. -/
theorem Src.pair (hs : Src w A 2 [x, y]) : ∃ ad, A = some ad ∧ w.cell? ad = some (.int .u8 (x.toNat : Int)) ∧ w.cell? ⟨ad.block, ad.off + 1, none⟩ = some (.int .u8 (y.toNat : Int)) := by
  obtain ⟨ad, rfl, hx⟩ := hs.2 (by omega)
  have c0 := hx 0 x rfl
  have c1 := hx 1 y rfl
  rw [show ad.add 0 = ad from by simp [Addr.add]] at c0
  rw [show ad.add 1 = ⟨ad.block, ad.off + 1, none⟩ from by simp [Addr.add]] at c1
  exact ⟨ad, rfl, c0, c1⟩
theorem mdParse_short (hes : ErrsOf w mdSel es) (A : Option Addr) (n cap : Nat) (h : n < 2) :
    Calls Tryz.prog 246 #[.slice A n cap] w fun e w' => ∃ a, es[2]? = some a ∧ e = .returned (.tuple #[.int .i64 0, .bool false, errV a]) ∧ Only (fun _ => False) w w' := by
  obtain ⟨a, ha, hc⟩ := hes.get 2 2 (by decide) rfl
  unfold errV at hc
  have HA := Lib.hid ha
  have hd : decide ((n : Int) < 2) = true := by simp; omega
  clear ha hes h
  go_enter Tryz.func246, Tryz.ntmps246
  go_wp2
  go_quiet (fail)
  go_wp2
  go_ret3
  exact ⟨a, HA.out, rfl, (Only.refl _ _).drewN _⟩
theorem mdParse_long (hes : ErrsOf w mdSel es) (A : Option Addr) (n cap : Nat) (h : 2 < n) :
    Calls Tryz.prog 246 #[.slice A n cap] w fun e w' => ∃ a, es[3]? = some a ∧ e = .returned (.tuple #[.int .i64 0, .bool false, errV a]) ∧ Only (fun _ => False) w w' := by
  obtain ⟨a, ha, hc⟩ := hes.get 3 3 (by decide) rfl
  unfold errV at hc
  have HA := Lib.hid ha
  have hd : decide ((n : Int) < 2) = false := by simp; omega
  have hd2 : decide ((2 : Int) < (n : Int)) = true := by simp; omega
  clear ha hes h
  go_enter Tryz.func246, Tryz.ntmps246
  go_wp2
  go_quiet (fail)
  go_wp2
  go_ret3
  exact ⟨a, HA.out, rfl, (Only.refl _ _).drewN _⟩
theorem mdParse_kind (hes : ErrsOf w mdSel es) (cap : Nat) (hs : Src w A 2 [x, y]) (h : x.toNat ≠ 1) :
    Calls Tryz.prog 246 #[.slice A 2 cap] w fun e w' => ∃ a, es[8]? = some a ∧ e = .returned (.tuple #[.int .i64 0, .bool false, errV a]) ∧ Only (fun _ => False) w w' := by
  obtain ⟨a, ha, hc⟩ := hes.get 8 8 (by decide) rfl
  unfold errV at hc
  have HA := Lib.hid ha
  obtain ⟨ad, rfl, c0, c1⟩ := hs.pair
  have e1 : ((x.toNat : Int) == 1) = false := by simp; omega
  have e2 : ((x.toNat : Int) != 1) = true := by simp; omega
  clear ha hes hs h
  go_enter Tryz.func246, Tryz.ntmps246
  go_wp2
  go_quiet (fail)
  go_wp2
  go_ret3
  exact ⟨a, HA.out, rfl, (Only.refl _ _).drewN _⟩
theorem mdParse_form (hes : ErrsOf w mdSel es) (cap : Nat) (hs : Src w A 2 [x, y]) (h : x.toNat = 1) (hm : isMask (clr y.toNat) = false) :
    Calls Tryz.prog 246 #[.slice A 2 cap] w fun e w' => ∃ a, es[4]? = some a ∧ e = .returned (.tuple #[.int .i64 0, .bool false, errV a]) ∧ Only (fun _ => False) w w' := by
  obtain ⟨a, ha, hc⟩ := hes.get 4 4 (by decide) rfl
  unfold errV at hc
  have HA := Lib.hid ha
  obtain ⟨ad, rfl, c0, c1⟩ := hs.pair
  rw [h] at c0
  have hy := y.toNat_lt
  have hb := clr_bits y.toNat hy
  have hin := clr_in y.toNat hy
  have HR := Lib.hid (fun W => mdRight_any W (m := clr y.toNat) ⟨by omega, by omega⟩)
  rw [hm] at HR
  generalize y.toNat = z at *
  generalize clr z = q at *
  clear ha hes hs h hm
  go_enter Tryz.func246, Tryz.ntmps246
  go_wp2_with (go_at_call 169; (with_reducible refine (HR.out _).mono ?_); rintro e w1 ⟨rfl, e1⟩; subst w1)
  go_quiet (fail)
  go_wp2
  go_ret3
  exact ⟨a, HA.out, rfl, (Only.refl _ _).drewN _⟩
theorem mdParse_ok (cap : Nat) (hs : Src w A 2 [x, y]) (h : x.toNat = 1) (hm : isMask (clr y.toNat) = true) :
    Calls Tryz.prog 246 #[.slice A 2 cap] w fun e w' => e = .returned (.tuple #[.int .i64 (clr y.toNat), .bool (ackB y.toNat), .nilIface]) ∧ Only (fun _ => False) w w' := by
  obtain ⟨ad, rfl, c0, c1⟩ := hs.pair
  rw [h] at c0
  have hy := y.toNat_lt
  have hb := clr_bits y.toNat hy
  have hin := clr_in y.toNat hy
  have hne := ack_ne y.toNat hy
  have HR := Lib.hid (fun W => mdRight_any W (m := clr y.toNat) ⟨by omega, by omega⟩)
  rw [hm] at HR
  generalize y.toNat = z at *
  generalize clr z = q at *
  generalize ackB z = k at *
  clear hs h hm
  go_enter Tryz.func246, Tryz.ntmps246
  go_wp2_with (go_at_call 169; (with_reducible refine (HR.out _).mono ?_); rintro e w1 ⟨rfl, e1⟩; subst w1)
  go_ret3
  exact ⟨rfl, Only.refl _ _⟩
/-- Parse of any bytes. -/
theorem mdParse_any (hes : ErrsOf w mdSel es) (cap : Nat) (hs : Src w A n b) :
    ∃ E, ErrV es E (saysM b).2.2 ∧ Calls Tryz.prog 246 #[.slice A n cap] w fun e w' => e = .returned (.tuple #[.int .i64 (saysM b).1, .bool (saysM b).2.1, E]) ∧ Only (fun _ => False) w w' := by
  have key : ∀ (i : Nat) (hi : i ∈ mdSel) (g : Nat), errIds[i]? = some g → saysM b = (0, false, i + 1) → (Calls Tryz.prog 246 #[.slice A n cap] w fun e w' => ∃ a, es[i]? = some a ∧ e = .returned (.tuple #[.int .i64 0, .bool false, errV a]) ∧ Only (fun _ => False) w w') →
      ∃ E, ErrV es E (saysM b).2.2 ∧ Calls Tryz.prog 246 #[.slice A n cap] w fun e w' => e = .returned (.tuple #[.int .i64 (saysM b).1, .bool (saysM b).2.1, E]) ∧ Only (fun _ => False) w w' := by
    intro i hi g hg hb h
    obtain ⟨a, ha, _⟩ := hes.get i g hi hg
    rw [hb]
    refine ⟨errV a, ErrV.err ha _ rfl, h.mono ?_⟩
    rintro e w' ⟨a', ha', rfl, ho⟩
    rw [ha] at ha'
    injection ha' with ha'
    subst ha'
    exact ⟨rfl, ho⟩
  have hl := hs.1
  match b, hl, hs, key with
  | [], hl, hs, key => exact key 2 (by decide) _ rfl rfl (mdParse_short hes A n cap (by simp at hl; omega))
  | [_], hl, hs, key => exact key 2 (by decide) _ rfl rfl (mdParse_short hes A n cap (by simp at hl; omega))
  | [x, y], hl, hs, key =>
    obtain rfl : n = 2 := by simpa using hl.symm
    by_cases h : x.toNat = 1
    · cases hm : isMask (clr y.toNat) with
      | false => exact key 4 (by decide) _ rfl (by simp [saysM, h, hm]) (mdParse_form hes cap hs h hm)
      | true =>
        have hb : saysM [x, y] = (clr y.toNat, ackB y.toNat, 0) := by simp [saysM, h, hm]
        rw [hb]
        exact ⟨_, ErrV.nil es, mdParse_ok cap hs h hm⟩
    · exact key 8 (by decide) _ rfl (by simp [saysM, h]) (mdParse_kind hes cap hs h)
  | x :: y :: z :: r, hl, hs, key => exact key 3 (by decide) _ rfl rfl (mdParse_long hes A n cap (by simp at hl; omega))
end
end Go.Proofs.YtbnfhklpobephaaGreatDoor
/- Heads and tails: Set, and both ways to hear. -/
namespace Go.Proofs.YtbnfhklpobephaaGreatDoor
open Go Go.RowKit
set_option maxRecDepth 100000
set_option maxHeartbeats 4000000

/-- What Set answers: the error's number. -/
def setNum (m hm : Int) (wt : Bool) : Nat := if isMask m then (if wt then 10 else if hm = m then 8 else 0) else 5
/-- What a head that hears answers. -/
def hearNum (b : List UInt8) (wt : Bool) : Nat := if (saysM b).2.2 = 0 then (if (saysM b).2.1 && wt then 0 else 10) else (saysM b).2.2
/-- What a tail that hears answers. -/
def takeNum (b : List UInt8) : Nat := if (saysM b).2.2 = 0 then (if (saysM b).2.1 then 10 else 0) else (saysM b).2.2

section
variable {w : World} {es : List Addr} {A : Option Addr} {n : Nat} {b : List UInt8} {p q : Nat} {m hm can tm : Int} {wt : Bool}
theorem ErrV.is_err {E : Value} {k : Nat} (h : ErrV es E k) (hk : k ≠ 0) : ∃ a, E = .iface 409 (.pointer (some a)) := by
  rcases h with ⟨rfl, _⟩ | ⟨i, a, _, _, rfl⟩
  · exact absurd rfl hk
  · exact ⟨a, rfl⟩
theorem HdAt.lt (h : HdAt w p m wt) : p < w.heap.size := Blk.lt h
theorem TlAt.lt (h : TlAt w q can m) : q < w.heap.size := Blk.lt h
theorem HdAt.same {w' : World} (h : HdAt w p m wt) (ho : Only (fun _ => False) w w') : HdAt w' p m wt := Blk.only h ho (fun h => h)
theorem TlAt.same {w' : World} (h : TlAt w q can m) (ho : Only (fun _ => False) w w') : TlAt w' q can m := Blk.only h ho (fun h => h)
theorem HdAt.far {w' : World} (h : HdAt w p m wt) (ho : Only (· = q) w w') (hne : p ≠ q) : HdAt w' p m wt := Blk.only h ho hne
theorem TlAt.far {w' : World} (h : TlAt w q can m) (ho : Only (· = p) w w') (hne : q ≠ p) : TlAt w' q can m := Blk.only h ho hne

end
end Go.Proofs.YtbnfhklpobephaaGreatDoor
/- Within a block: heads (from place 108 on) and tails (from place 110 on): Hear, Mask, Waits. -/
namespace Go.Proofs.YtbnfhklpobephaaGreatDoor
open Go Go.RowKit
set_option maxRecDepth 100000
set_option maxHeartbeats 4000000

/-- A head, in a block. -/
@[reducible] def HeIn (w : World) (p mo : Nat) (t : TypeId) (pre post : List Value) (m : Int) (b : Bool) : Prop := InB w p t pre post mo [.int .i64 m, .bool b]
/-- A tail. -/
@[reducible] def TaIn (w : World) (q mo : Nat) (t : TypeId) (pre post : List Value) (can m : Int) : Prop := InB w q t pre post mo [.int .i64 can, .int .i64 m]
section
variable {w : World} {es : List Addr} {A : Option Addr} {n : Nat} {b : List UInt8} {p q mo : Nat} {m hm can tm : Int} {wt : Bool} {t : TypeId} {pre post : List Value}
theorem heHear_bad (hes : ErrsOf w mdSel es) (hh : HeIn w p mo t pre post hm wt) (cap : Nat) (hs : Src w A n b) (hn : hearNum b wt ≠ 0) :
    Calls Tryz.prog 237 #[.pointer (some ⟨p, mo, none⟩), .slice A n cap] w fun e w' => ∃ E, ErrV es E (hearNum b wt) ∧ e = .returned E ∧ Only (fun _ => False) w w' := by
  obtain ⟨E, hE, hP⟩ := mdParse_any hes cap hs
  have HP := Lib.hid hP
  unfold hearNum at hn ⊢
  by_cases hz : (saysM b).2.2 = 0
  · rw [if_pos hz] at hn ⊢
    rw [hz] at hE
    obtain rfl : E = .nilIface := by
      rcases hE with ⟨_, h⟩ | ⟨i, _, h, _⟩
      · exact h
      · omega
    obtain ⟨a, ha, hc⟩ := hes.get 9 9 (by decide) rfl
    have hc' : ∀ W, Only (fun _ => False) w W → W.cell? ⟨9, 0, none⟩ = some (.iface 409 (.pointer (some a))) := fun W ho => ho.cellv hc (fun h => h)
    have HC := Lib.hid hc'
    have HA : Hid (ErrV es (errV a) 10) := ErrV.err ha 10 rfl
    have HB : Hid (∀ W, Only (fun _ => False) w W → W.cell? ⟨p, mo + 1, none⟩ = some (.bool wt)) := fun W ho => (hh.same ho).val (i := 1) rfl
    generalize (saysM b).1 = z at *
    generalize (saysM b).2.1 = k at *
    have hkw : (k && wt) = false := by
      cases h : (k && wt) with
      | false => rfl
      | true => rw [h] at hn; simp at hn
    rw [hkw, if_neg (by simp)]
    clear hn hz hE hP hes ha hc hc' hh hs
    cases k <;> cases wt
    case true.true => cases hkw
    all_goals
      clear hkw
      go_enter Tryz.func237, Tryz.ntmps237
      go_wp2_with (go_at_call 246; (with_reducible refine HP.out.mono ?_); rintro e w1 ⟨rfl, ho1⟩; have HO1 := Lib.hid ho1; have c1 := HB.out _ ho1; have c2 := HC.out _ ho1; clear ho1)
      go_ret
      exact ⟨_, HA.out, rfl, HO1.out⟩
  · rw [if_neg hz] at hn ⊢
    obtain ⟨a, rfl⟩ := hE.is_err hn
    have HE := Lib.hid hE
    generalize (saysM b).1 = z at *
    generalize (saysM b).2.1 = k at *
    generalize (saysM b).2.2 = y at *
    clear hn hz hE hP hes hh hs
    go_enter Tryz.func237, Tryz.ntmps237
    go_wp2_with (go_at_call 246; (with_reducible refine HP.out.mono ?_); rintro e w1 ⟨rfl, ho1⟩; have HO1 := Lib.hid ho1; clear ho1)
    go_ret
    exact ⟨_, HE.out, rfl, HO1.out⟩

theorem heHear_ok (hes : ErrsOf w mdSel es) (hh : HeIn w p mo t pre post hm wt) (cap : Nat) (hs : Src w A n b) (hn : hearNum b wt = 0) :
    Calls Tryz.prog 237 #[.pointer (some ⟨p, mo, none⟩), .slice A n cap] w fun e w' => e = .returned .nilIface ∧ Hid (HeIn w' p mo t pre post (saysM b).1 false) ∧ Hid (Only (· = p) w w') := by
  obtain ⟨E, hE, hP⟩ := mdParse_any hes cap hs
  have HP := Lib.hid hP
  unfold hearNum at hn
  by_cases hz : (saysM b).2.2 = 0
  · rw [if_pos hz] at hn
    rw [hz] at hE
    obtain rfl : E = .nilIface := by
      rcases hE with ⟨_, h⟩ | ⟨i, _, h, _⟩
      · exact h
      · omega
    have HH := Lib.hid hh
    generalize (saysM b).1 = z at *
    generalize (saysM b).2.1 = k at *
    obtain ⟨rfl, rfl⟩ : k = true ∧ wt = true := by
      cases k <;> cases wt <;> simp at hn ⊢
    have hlt := hh.lt
    clear hn hz hE hP hes hh hs
    go_enter Tryz.func237, Tryz.ntmps237
    go_wp2_with (go_at_call 246; (with_reducible refine HP.out.mono ?_); rintro e w1 ⟨rfl, ho1⟩; have HO1 := Lib.hid ho1; have HB1 := Lib.hid (HH.out.same ho1); have c0 : w1.cell? ⟨p, mo, none⟩ = some _ := HB1.out.val (i := 0) rfl; have c1 : w1.cell? ⟨p, mo + 1, none⟩ = some _ := HB1.out.val (i := 1) rfl; have f0 := HB1.out.frozen (mo); have f1 := HB1.out.frozen (mo + 1); clear ho1)
    go_ret
    refine ⟨rfl, ?_, ?_⟩
    · exact (HB1.out.setCell (i := 0) (by simp) (.int .i64 z)).setCell (i := 1) (by simp) (.bool false)
    · exact Only.setCell (S := (· = p)) (p := ⟨p, mo + 1, none⟩) (Only.setCell (S := (· = p)) (p := ⟨p, mo, none⟩) (HO1.out.mono (fun _ h => h.elim)) (.inl rfl) _) (.inl rfl) _
  · rw [if_neg hz] at hn
    exact absurd hn hz

theorem taHear_bad (hes : ErrsOf w mdSel es) (cap : Nat) (hs : Src w A n b) (hn : takeNum b ≠ 0) :
    Calls Tryz.prog 236 #[.pointer (some ⟨q, mo, none⟩), .slice A n cap] w fun e w' => ∃ E, ErrV es E (takeNum b) ∧ e = .returned (.tuple #[.slice none 0 0, E]) ∧ Only (fun _ => False) w w' := by
  obtain ⟨E, hE, hP⟩ := mdParse_any hes cap hs
  have HP := Lib.hid hP
  unfold takeNum at hn ⊢
  by_cases hz : (saysM b).2.2 = 0
  · rw [if_pos hz] at hn ⊢
    rw [hz] at hE
    obtain rfl : E = .nilIface := by
      rcases hE with ⟨_, h⟩ | ⟨i, _, h, _⟩
      · exact h
      · omega
    obtain ⟨a, ha, hc⟩ := hes.get 9 9 (by decide) rfl
    have hc' : ∀ W, Only (fun _ => False) w W → W.cell? ⟨9, 0, none⟩ = some (.iface 409 (.pointer (some a))) := fun W ho => ho.cellv hc (fun h => h)
    have HC := Lib.hid hc'
    have HA : Hid (ErrV es (errV a) 10) := ErrV.err ha 10 rfl
    generalize (saysM b).1 = z at *
    generalize (saysM b).2.1 = k at *
    obtain rfl : k = true := by
      cases k <;> simp at hn ⊢
    rw [if_pos rfl]
    clear hn hz hE hP hes ha hc hc' hs
    go_enter Tryz.func236, Tryz.ntmps236
    go_wp2_with (go_at_call 246; (with_reducible refine HP.out.mono ?_); rintro e w1 ⟨rfl, ho1⟩; have HO1 := Lib.hid ho1; have c2 := HC.out _ ho1; clear ho1)
    go_quiet (fail)
    go_wp2
    go_ret2
    exact ⟨_, HA.out, rfl, HO1.out.drewN _⟩
  · rw [if_neg hz] at hn ⊢
    obtain ⟨a, rfl⟩ := hE.is_err hn
    have HE := Lib.hid hE
    generalize (saysM b).1 = z at *
    generalize (saysM b).2.1 = k at *
    generalize (saysM b).2.2 = y at *
    clear hn hz hE hP hes hs
    go_enter Tryz.func236, Tryz.ntmps236
    go_wp2_with (go_at_call 246; (with_reducible refine HP.out.mono ?_); rintro e w1 ⟨rfl, ho1⟩; have HO1 := Lib.hid ho1; clear ho1)
    go_ret2
    exact ⟨_, HE.out, rfl, HO1.out⟩

theorem taHear_ok (hes : ErrsOf w mdSel es) (hh : TaIn w q mo t pre post can tm) (hcan : isMask can = true) (cap : Nat) (hs : Src w A n b) (hn : takeNum b = 0) :
    Calls Tryz.prog 236 #[.pointer (some ⟨q, mo, none⟩), .slice A n cap] w fun e w' => ∃ N, e = .returned (.tuple #[.slice (some ⟨N, 0, none⟩) 2 2, .nilIface]) ∧ Hid (w.heap.size ≤ N) ∧ Hid (Src w' (some ⟨N, 0, none⟩) 2 (bodyM (both (saysM b).1 can + 4))) ∧ Hid (TaIn w' q mo t pre post can (both (saysM b).1 can)) ∧ Hid (Only (· = q) w w') := by
  obtain ⟨E, hE, hP⟩ := mdParse_any hes cap hs
  have HP := Lib.hid hP
  unfold takeNum at hn
  by_cases hz : (saysM b).2.2 = 0
  · rw [if_pos hz] at hn
    rw [hz] at hE
    obtain rfl : E = .nilIface := by
      rcases hE with ⟨_, h⟩ | ⟨i, _, h, _⟩
      · exact h
      · omega
    have hm := saysM_mask hz
    have HH := Lib.hid hh
    generalize (saysM b).1 = z at *
    generalize (saysM b).2.1 = k at *
    obtain rfl : k = false := by
      cases k <;> simp at hn ⊢
    have ha := and_both hm hcan
    have hbm := both_mask hm hcan
    have ho4 := or_four hbm
    have hb := isMask_iff.1 hbm
    generalize both z can = y at *
    have HTl := Lib.hid (fun W => mdTell_any W (m := y + 4) (by omega) (by omega))
    clear hn hz hE hP hes hh hs hm hcan hbm hb
    go_enter Tryz.func236, Tryz.ntmps236
    go_wp2_with (first
      | (go_at_call 246; (with_reducible refine HP.out.mono ?_); rintro e w1 ⟨rfl, ho1⟩; have HO1 := Lib.hid ho1; have HB1 := Lib.hid (HH.out.same ho1); have c0 : w1.cell? ⟨q, mo, none⟩ = some _ := HB1.out.val (i := 0) rfl; have c1 : w1.cell? ⟨q, mo + 1, none⟩ = some _ := HB1.out.val (i := 1) rfl; have f0 := HB1.out.frozen (mo); have f1 := HB1.out.frozen (mo + 1); have hlt := HB1.out.lt; clear ho1)
      | (go_at_call 170; (with_reducible refine (HTl.out _).mono ?_); rintro e w2 ⟨rfl, hs2, ho2⟩))
    go_ret2
    have hO1 : Only (· = q) w (w1.setCell ⟨q, mo + 1, none⟩ (.int .i64 y)) := Only.setCell (S := (· = q)) (p := ⟨q, mo + 1, none⟩) (HO1.out.mono (fun _ h => h.elim)) (.inl rfl) _
    refine ⟨_, rfl, ?_, ?_, ?_, hO1.trans ho2.out (fun _ h => h.elim)⟩
    · exact HO1.out.size
    · have h := hs2.out
      rw [setCell_size] at h
      exact h
    · exact (HB1.out.setCell (i := 1) (by simp) (.int .i64 y)).same ho2.out
  · rw [if_neg hz] at hn
    exact absurd hn hz
end
end Go.Proofs.YtbnfhklpobephaaGreatDoor
/- Within a block: a side's Waits (from place 18 on). -/
namespace Go.Proofs.YtbnfhklpobephaaGreatDoor
open Go Go.RowKit
set_option maxRecDepth 100000
set_option maxHeartbeats 4000000

end Go.Proofs.YtbnfhklpobephaaGreatDoor
