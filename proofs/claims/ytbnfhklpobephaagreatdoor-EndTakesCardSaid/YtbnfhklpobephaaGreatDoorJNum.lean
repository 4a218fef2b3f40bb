/- Several texts in one. -/
import Derived.Test.YtbnfhklpobephaaGreatDoorJTextsTwo
import Derived.Test.YtbnfhklpobephaaGreatDoorKTt
import Derived.BigQuiet
/- A seat without truchmannum.Num. -/
namespace Go.Proofs.YtbnfhklpobephaaGreatDoor
end Go.Proofs.YtbnfhklpobephaaGreatDoor
/- Of the sixteen errors those that a row lists, whichever: each by its number. -/
namespace Go.Proofs.YtbnfhklpobephaaGreatDoor
open Go Go.ChangeShapes Go.WideShapes Go.ChangeAt Go.RowKit

/-- Of the sixteen errors those of sel lie where they were laid. -/
structure ErrsOf (W : World) (sel : List Nat) (es : List Addr) : Prop where
  len : es.length = 16
  at_ : ∀ i ∈ sel, ∀ (g : Nat) (a : Addr), errIds[i]? = some g → es[i]? = some a → W.cell? ⟨g, 0, none⟩ = some (errV a)
theorem ErrsAt.of {W : World} {es : List Addr} (h : ErrsAt W es) (sel : List Nat) (hs : (sel.all fun i => decide (errIds.getD i 0 < 1000)) = true := by decide) : ErrsOf W sel es :=
  ⟨h.len, fun i hi g a hg ha => h.at_ i g a hg ha (by
    have h1 := List.all_eq_true.1 hs i hi
    rw [List.getD_eq_getElem?_getD, hg] at h1
    simpa using h1)⟩
/-- All that this seat has. -/
def errSel : List Nat := [0, 2, 3, 4, 5, 6, 7, 8, 9]
theorem ErrsOf.all {W : World} {es : List Addr} (h : ErrsOf W errSel es) : ErrsAt W es :=
  ⟨h.len, fun i g a hg ha hlt => h.at_ i (by
    have hi : i < 16 := by
      have := (List.getElem?_eq_some_iff.1 hg).1
      exact this
    have key : ∀ i < 16, errIds.getD i 0 < 1000 → i ∈ errSel := by decide
    refine key i hi ?_
    rw [List.getD_eq_getElem?_getD, hg]
    exact hlt) g a hg ha⟩
theorem ErrsOf.only {W W' : World} {sel : List Nat} {es : List Addr} (h : ErrsOf W sel es) (ho : Only (fun _ => False) W W') : ErrsOf W' sel es :=
  ⟨h.len, fun i hi g a hg ha => ho.cellv (h.at_ i hi g a hg ha) (fun h => h)⟩
/-- What may turn isn't what is listed: it was made later. -/
theorem ErrsOf.from_ {W W' : World} {sel : List Nat} {es : List Addr} {S : Nat → Prop} (h : ErrsOf W sel es) (ho : Only S W W') (hS : ∀ i ∈ sel, ∀ g, errIds[i]? = some g → ¬ S g) : ErrsOf W' sel es :=
  ⟨h.len, fun i hi g a hg ha => ho.cellv (h.at_ i hi g a hg ha) (hS i hi g hg)⟩
theorem ErrsOf.get {W : World} {sel : List Nat} {es : List Addr} (h : ErrsOf W sel es) (i g : Nat) (hi : i ∈ sel) (hg : errIds[i]? = some g) : ∃ a, es[i]? = some a ∧ W.cell? ⟨g, 0, none⟩ = some (errV a) := by
  have hl : i < es.length := by
    rw [h.len]
    have := (List.getElem?_eq_some_iff.1 hg).1
    have h16 : errIds.length = 16 := rfl
    omega
  exact ⟨_, List.getElem?_eq_getElem hl, h.at_ i hi g _ hg (List.getElem?_eq_getElem hl)⟩
theorem ErrsOf.le {W : World} {sel sel' : List Nat} {es : List Addr} (h : ErrsOf W sel es) (hs : ∀ i ∈ sel', i ∈ sel) : ErrsOf W sel' es := ⟨h.len, fun i hi => h.at_ i (hs i hi)⟩

/-- An error, or none, by its number; none is 0. -/
def ErrV (es : List Addr) (v : Value) (num : Nat) : Prop := (num = 0 ∧ v = .nilIface) ∨ ∃ i a, num = i + 1 ∧ es[i]? = some a ∧ v = errV a
theorem ErrV.nil (es : List Addr) : ErrV es .nilIface 0 := .inl ⟨rfl, rfl⟩
theorem ErrV.err {es : List Addr} {i : Nat} {a : Addr} (h : es[i]? = some a) (k : Nat) (hk : k = i + 1) : ErrV es (errV a) k := .inr ⟨i, a, hk, h, rfl⟩

/-- A row's list of some of them. -/
theorem errs_of_sel {W : World} (sel : List Nat) (laid : List (String × DataW Unit)) (h : laidMet Tryz.prog laid W) (hids : (laid.map fun x => Tryz.prog.globalNamed x.1) = sel.map fun i => errIds[i]?) (_ : sel.Nodup)
    (hk : ∀ x ∈ laid, ∃ text, x.2 = .iface "*errors.errorString" (.ptr (.agg [.lit (.string text)])))
    (hty : (sel.all fun i => (errIds[i]?).any fun g => (Tryz.prog.globals[g]?).map (·.type) == some 38) = true) (hsel : ∀ i ∈ sel, i < 16) : ∃ es, ErrsOf W sel es := by
  obtain ⟨ps, hv, hnd', hrows⟩ := h
  have hlen : laid.length = sel.length := by
    have := congrArg List.length hids
    simpa using this
  have h16 : errIds.length = 16 := rfl
  have hget : ∀ (j : Nat) (x : String × DataW Unit), laid[j]? = some x → ∃ i g, sel[j]? = some i ∧ errIds[i]? = some g ∧ Tryz.prog.globalNamed x.1 = some g := fun j x hx => by
    have h1 : (laid.map fun x => Tryz.prog.globalNamed x.1)[j]? = some (Tryz.prog.globalNamed x.1) := by rw [List.getElem?_map, hx]; rfl
    have hj : j < sel.length := by have := (List.getElem?_eq_some_iff.1 hx).1; omega
    rw [hids, List.getElem?_map, List.getElem?_eq_getElem hj] at h1
    simp only [Option.map_some, Option.some.injEq] at h1
    have hlt := hsel _ (List.getElem_mem hj)
    refine ⟨_, errIds[sel[j]]'(by omega), List.getElem?_eq_getElem hj, List.getElem?_eq_getElem (by omega), ?_⟩
    rw [← h1]
    exact List.getElem?_eq_getElem (by omega)
  obtain ⟨es, h1, h2, _, h4⟩ := laid_list laid ps hv hk (fun x hx g hg => by
    obtain ⟨j, hj⟩ := List.getElem?_of_mem hx
    obtain ⟨i, g', hi', hg', hg''⟩ := hget j x hj
    rw [hg] at hg''
    injection hg'' with e
    subst e
    have := List.all_eq_true.1 hty i (List.mem_of_getElem? hi')
    rw [hg'] at this
    simpa using this) hrows hnd'
  refine ⟨(List.range 16).map fun i => es.getD (sel.idxOf i) ⟨0, 0, none⟩, by simp, fun i hi g a hg ha => ?_⟩
  have hj : sel.idxOf i < sel.length := List.idxOf_lt_length_of_mem hi
  have hji : sel[sel.idxOf i]? = some i := by rw [List.getElem?_eq_getElem hj, List.getElem_idxOf hj]
  rw [List.getElem?_map, List.getElem?_range (hsel i hi)] at ha
  simp only [Option.map_some, Option.some.injEq] at ha
  generalize sel.idxOf i = j at *
  have hjl : j < laid.length := by omega
  have hje : es[j]? = some a := by
    rw [List.getD_eq_getElem?_getD, List.getElem?_eq_getElem (by omega)] at ha
    rw [List.getElem?_eq_getElem (by omega)]
    simpa using ha
  obtain ⟨g1, hg1, hc, _⟩ := h4 j _ a (List.getElem?_eq_getElem hjl) hje
  obtain ⟨i2, g2, hi2, hg2, hg3⟩ := hget j _ (List.getElem?_eq_getElem hjl)
  rw [hji] at hi2
  injection hi2 with e
  subst e
  rw [hg1] at hg3
  injection hg3 with e
  subst e
  rw [hg] at hg2
  injection hg2 with e
  subst e
  exact hc
end Go.Proofs.YtbnfhklpobephaaGreatDoor
/- Modes: what a number is, a body told, heads and tails in memory, what they have. -/
namespace Go.Proofs.YtbnfhklpobephaaGreatDoor
open Go Go.RowKit
set_option maxRecDepth 100000
set_option maxHeartbeats 4000000

theorem mdRight_any (w : World) {m : Int} (hm : In64 m) : Calls Tryz.prog 169 #[.int .i64 m] w fun e w' => e = .returned (.bool (isMask m)) ∧ w' = w := by
  have h := right_bits hm
  obtain ⟨z, hz⟩ : ∃ z, z = bits .andNot .i64 m 27 := ⟨_, rfl⟩
  rw [← hz] at h
  have hb := hz.symm
  obtain ⟨p, hp⟩ : ∃ p, p = isMask m := ⟨_, rfl⟩
  rw [← hp] at h ⊢
  have h2 : decide (z = 0) = p := by rw [← h]; rfl
  clear hz hp
  cases p
  all_goals
    go_enter Tryz.func169, Tryz.ntmps169
    go_wp2
    go_ret
    exact ⟨rfl, rfl⟩

theorem mdTell_any (w : World) {m : Int} (h0 : 0 ≤ m) (h1 : m ≤ 255) : Calls Tryz.prog 170 #[.int .i64 m] w fun e w' => e = .returned (.slice (some ⟨w.heap.size, 0, none⟩) 2 2) ∧ Hid (Src w' (some ⟨w.heap.size, 0, none⟩) 2 (bodyM m)) ∧ Hid (Only (fun _ => False) w w') := by
  have hb : (#[.int .u8 1, .int .u8 m] : Array Value) = ((bodyM m).map B8).toArray := by
    simp only [bodyM, List.map_cons, List.map_nil, B8, b8_int h0 h1]
    rfl
  go_enter Tryz.func170, Tryz.ntmps170
  go_wp2
  go_ret
  exact ⟨rfl, src_new w (bodyM m) _ 5 _ 2 rfl rfl, (Only.refl _ _).alloc _⟩

/-- A head, in memory. -/
def HdAt (w : World) (p : Nat) (m : Int) (b : Bool) : Prop := Blk w p 116 [.int .i64 m, .bool b]
/-- A tail. -/
def TlAt (w : World) (q : Nat) (can m : Int) : Prop := Blk w q 118 [.int .i64 can, .int .i64 m]

theorem mdNewHead_any (w : World) : Calls Tryz.prog 136 #[] w fun e w' => e = .returned (.pointer (some ⟨w.heap.size, 0, none⟩)) ∧ Hid (HdAt w' w.heap.size 0 false) ∧ Hid (w'.heap.size = w.heap.size + 1) ∧ Hid (Only (fun _ => False) w w') := by
  go_enter Tryz.func136, Tryz.ntmps136
  go_wp2
  go_ret
  exact ⟨rfl, Blk.new w _ [.int .i64 0, .bool false], show (w.alloc _).heap.size = _ by simp, (Only.refl _ _).alloc _⟩
theorem mdNewTail_any (w : World) (can : Int) : Calls Tryz.prog 137 #[.int .i64 can] w fun e w' => e = .returned (.pointer (some ⟨w.heap.size, 0, none⟩)) ∧ Hid (TlAt w' w.heap.size (canOf can) 0) ∧ Hid (w'.heap.size = w.heap.size + 1) ∧ Hid (Only (fun _ => False) w w') := by
  have hb : bits .and .i64 can 27 = canOf can := rfl
  go_enter Tryz.func137, Tryz.ntmps137
  go_wp2
  go_ret
  exact ⟨rfl, Blk.new w _ [.int .i64 (canOf can), .int .i64 0], show (w.alloc _).heap.size = _ by simp, (Only.refl _ _).alloc _⟩

theorem mdMask_any {w : World} {p : Nat} {m : Int} {b : Bool} (h : HdAt w p m b) : Calls Tryz.prog 106 #[.pointer (some ⟨p, 0, none⟩)] w fun e w' => e = .returned (.int .i64 m) ∧ w' = w := by
  have c0 := Blk.cell h 0
  simp only [List.getElem?_cons_zero] at c0
  go_enter Tryz.func106, Tryz.ntmps106
  go_wp2
  go_ret
  exact ⟨rfl, rfl⟩
theorem mdWaits_any {w : World} {p : Nat} {m : Int} {b : Bool} (h : HdAt w p m b) : Calls Tryz.prog 110 #[.pointer (some ⟨p, 0, none⟩)] w fun e w' => e = .returned (.bool b) ∧ w' = w := by
  have c1 := Blk.cell h 1
  simp only [List.getElem?_cons_zero, List.getElem?_cons_succ] at c1
  go_enter Tryz.func110, Tryz.ntmps110
  go_wp2
  go_ret
  exact ⟨rfl, rfl⟩
theorem mdTMask_any {w : World} {q : Nat} {can m : Int} (h : TlAt w q can m) : Calls Tryz.prog 107 #[.pointer (some ⟨q, 0, none⟩)] w fun e w' => e = .returned (.int .i64 m) ∧ w' = w := by
  have c1 := Blk.cell h 1
  simp only [List.getElem?_cons_zero, List.getElem?_cons_succ] at c1
  go_enter Tryz.func107, Tryz.ntmps107
  go_wp2
  go_ret
  exact ⟨rfl, rfl⟩
end Go.Proofs.YtbnfhklpobephaaGreatDoor
/- What a body says: the program's Parse of any bytes. -/
namespace Go.Proofs.YtbnfhklpobephaaGreatDoor
open Go Go.RowKit
set_option maxRecDepth 100000
set_option maxHeartbeats 4000000

/-- The errors that modes tell: by their places among the sixteen. -/
@[reducible] def mdSel : List Nat := [2, 3, 4, 7, 8, 9]

section
variable {w : World} {es : List Addr} {A : Option Addr} {n : Nat} {b : List UInt8} {x y : UInt8}
/-- The two bytes lie side by side. -/
theorem Src.pair (hs : Src w A 2 [x, y]) : ∃ ad, A = some ad ∧ w.cell? ad = some (.int .u8 (x.toNat : Int)) ∧ w.cell? ⟨ad.block, ad.off + 1, none⟩ = some (.int .u8 (y.toNat : Int)) := by
  obtain ⟨ad, rfl, hx⟩ := hs.2 (by omega)
  have c0 := hx 0 x rfl
  have c1 := hx 1 y rfl
  rw [show ad.add 0 = ad from by simp [Addr.add]] at c0
  rw [show ad.add 1 = ⟨ad.block, ad.off + 1, none⟩ from by simp [Addr.add]] at c1
  exact ⟨ad, rfl, c0, c1⟩
theorem mdParse_short (hes : ErrsOf w mdSel es) (A : Option Addr) (n cap : Nat) (h : n < 2) :
    Calls Tryz.prog 246 #[.slice A n cap] w fun e w' => ∃ a, es[2]? = some a ∧ e = .returned (.tuple #[.int .i64 0, .bool false, errV a]) ∧ Only (fun _ => False) w w' := by
  obtain ⟨a, ha, hc⟩ := hes.get 2 2 (by decide) rfl
  unfold errV at hc
  have HA := Lib.hid ha
  have hd : decide ((n : Int) < 2) = true := by simp; omega
  clear ha hes h
  go_enter Tryz.func246, Tryz.ntmps246
  go_wp2
  go_quiet (fail)
  go_wp2
  go_ret3
  exact ⟨a, HA.out, rfl, (Only.refl _ _).drewN _⟩
theorem mdParse_long (hes : ErrsOf w mdSel es) (A : Option Addr) (n cap : Nat) (h : 2 < n) :
    Calls Tryz.prog 246 #[.slice A n cap] w fun e w' => ∃ a, es[3]? = some a ∧ e = .returned (.tuple #[.int .i64 0, .bool false, errV a]) ∧ Only (fun _ => False) w w' := by
  obtain ⟨a, ha, hc⟩ := hes.get 3 3 (by decide) rfl
  unfold errV at hc
  have HA := Lib.hid ha
  have hd : decide ((n : Int) < 2) = false := by simp; omega
  have hd2 : decide ((2 : Int) < (n : Int)) = true := by simp; omega
  clear ha hes h
  go_enter Tryz.func246, Tryz.ntmps246
  go_wp2
  go_quiet (fail)
  go_wp2
  go_ret3
  exact ⟨a, HA.out, rfl, (Only.refl _ _).drewN _⟩
theorem mdParse_kind (hes : ErrsOf w mdSel es) (cap : Nat) (hs : Src w A 2 [x, y]) (h : x.toNat ≠ 1) :
    Calls Tryz.prog 246 #[.slice A 2 cap] w fun e w' => ∃ a, es[8]? = some a ∧ e = .returned (.tuple #[.int .i64 0, .bool false, errV a]) ∧ Only (fun _ => False) w w' := by
  obtain ⟨a, ha, hc⟩ := hes.get 8 8 (by decide) rfl
  unfold errV at hc
  have HA := Lib.hid ha
  obtain ⟨ad, rfl, c0, c1⟩ := hs.pair
  have e1 : ((x.toNat : Int) == 1) = false := by simp; omega
  have e2 : ((x.toNat : Int) != 1) = true := by simp; omega
  clear ha hes hs h
  go_enter Tryz.func246, Tryz.ntmps246
  go_wp2
  go_quiet (fail)
  go_wp2
  go_ret3
  exact ⟨a, HA.out, rfl, (Only.refl _ _).drewN _⟩
theorem mdParse_form (hes : ErrsOf w mdSel es) (cap : Nat) (hs : Src w A 2 [x, y]) (h : x.toNat = 1) (hm : isMask (clr y.toNat) = false) :
    Calls Tryz.prog 246 #[.slice A 2 cap] w fun e w' => ∃ a, es[4]? = some a ∧ e = .returned (.tuple #[.int .i64 0, .bool false, errV a]) ∧ Only (fun _ => False) w w' := by
  obtain ⟨a, ha, hc⟩ := hes.get 4 4 (by decide) rfl
  unfold errV at hc
  have HA := Lib.hid ha
  obtain ⟨ad, rfl, c0, c1⟩ := hs.pair
  rw [h] at c0
  have hy := y.toNat_lt
  have hb := clr_bits y.toNat hy
  have hin := clr_in y.toNat hy
  have HR := Lib.hid (fun W => mdRight_any W (m := clr y.toNat) ⟨by omega, by omega⟩)
  rw [hm] at HR
  generalize y.toNat = z at *
  generalize clr z = q at *
  clear ha hes hs h hm
  go_enter Tryz.func246, Tryz.ntmps246
  go_wp2_with (go_at_call 169; (with_reducible refine (HR.out _).mono ?_); rintro e w1 ⟨rfl, e1⟩; subst w1)
  go_quiet (fail)
  go_wp2
  go_ret3
  exact ⟨a, HA.out, rfl, (Only.refl _ _).drewN _⟩
theorem mdParse_ok (cap : Nat) (hs : Src w A 2 [x, y]) (h : x.toNat = 1) (hm : isMask (clr y.toNat) = true) :
    Calls Tryz.prog 246 #[.slice A 2 cap] w fun e w' => e = .returned (.tuple #[.int .i64 (clr y.toNat), .bool (ackB y.toNat), .nilIface]) ∧ Only (fun _ => False) w w' := by
  obtain ⟨ad, rfl, c0, c1⟩ := hs.pair
  rw [h] at c0
  have hy := y.toNat_lt
  have hb := clr_bits y.toNat hy
  have hin := clr_in y.toNat hy
  have hne := ack_ne y.toNat hy
  have HR := Lib.hid (fun W => mdRight_any W (m := clr y.toNat) ⟨by omega, by omega⟩)
  rw [hm] at HR
  generalize y.toNat = z at *
  generalize clr z = q at *
  generalize ackB z = k at *
  clear hs h hm
  go_enter Tryz.func246, Tryz.ntmps246
  go_wp2_with (go_at_call 169; (with_reducible refine (HR.out _).mono ?_); rintro e w1 ⟨rfl, e1⟩; subst w1)
  go_ret3
  exact ⟨rfl, Only.refl _ _⟩
/-- Parse of any bytes. -/
theorem mdParse_any (hes : ErrsOf w mdSel es) (cap : Nat) (hs : Src w A n b) :
    ∃ E, ErrV es E (saysM b).2.2 ∧ Calls Tryz.prog 246 #[.slice A n cap] w fun e w' => e = .returned (.tuple #[.int .i64 (saysM b).1, .bool (saysM b).2.1, E]) ∧ Only (fun _ => False) w w' := by
  have key : ∀ (i : Nat) (hi : i ∈ mdSel) (g : Nat), errIds[i]? = some g → saysM b = (0, false, i + 1) → (Calls Tryz.prog 246 #[.slice A n cap] w fun e w' => ∃ a, es[i]? = some a ∧ e = .returned (.tuple #[.int .i64 0, .bool false, errV a]) ∧ Only (fun _ => False) w w') →
      ∃ E, ErrV es E (saysM b).2.2 ∧ Calls Tryz.prog 246 #[.slice A n cap] w fun e w' => e = .returned (.tuple #[.int .i64 (saysM b).1, .bool (saysM b).2.1, E]) ∧ Only (fun _ => False) w w' := by
    intro i hi g hg hb h
    obtain ⟨a, ha, _⟩ := hes.get i g hi hg
    rw [hb]
    refine ⟨errV a, ErrV.err ha _ rfl, h.mono ?_⟩
    rintro e w' ⟨a', ha', rfl, ho⟩
    rw [ha] at ha'
    injection ha' with ha'
    subst ha'
    exact ⟨rfl, ho⟩
  have hl := hs.1
  match b, hl, hs, key with
  | [], hl, hs, key => exact key 2 (by decide) _ rfl rfl (mdParse_short hes A n cap (by simp at hl; omega))
  | [_], hl, hs, key => exact key 2 (by decide) _ rfl rfl (mdParse_short hes A n cap (by simp at hl; omega))
  | [x, y], hl, hs, key =>
    obtain rfl : n = 2 := by simpa using hl.symm
    by_cases h : x.toNat = 1
    · cases hm : isMask (clr y.toNat) with
      | false => exact key 4 (by decide) _ rfl (by simp [saysM, h, hm]) (mdParse_form hes cap hs h hm)
      | true =>
        have hb : saysM [x, y] = (clr y.toNat, ackB y.toNat, 0) := by simp [saysM, h, hm]
        rw [hb]
        exact ⟨_, ErrV.nil es, mdParse_ok cap hs h hm⟩
    · exact key 8 (by decide) _ rfl (by simp [saysM, h]) (mdParse_kind hes cap hs h)
  | x :: y :: z :: r, hl, hs, key => exact key 3 (by decide) _ rfl rfl (mdParse_long hes A n cap (by simp at hl; omega))
end
end Go.Proofs.YtbnfhklpobephaaGreatDoor
