/- Several texts in one. -/
import Derived.Test.YtlmkpembccehkaaGreatDoorJBody
import Derived.LaidEql
import Derived.LaidLaws
import Derived.Stop.Asserts
import Derived.RowKitTokens
import Derived.Outline
import Derived.Test.YtlmkpembccehkaaGreatDoorJTtRight
import Derived.Test.YtlmkpembccehkaaGreatDoorJBox
/- Errors of package api, where a seat has some of the sixteen alone: what the program's text lays. -/
namespace Go.Proofs.YtlmkpembccehkaaGreatDoor
open Go Go.ChangeShapes Go.WideShapes Go.ChangeAt Go.RowKit Go.Extern.Stop Go.Stop Go.Extern

/-- An error of errors.New's make, es a value. -/
def errV (a : Addr) : Value := .iface 191 (.pointer (some a))

theorem star : "*" ++ "errors.errorString" = "*errors.errorString" := by decide
theorem rowErr (u : TypeId) (h : Tryz.prog.typeName? 3 u = some "*errors.errorString") : u = 191 :=
  typeName_ptr_named (nm := "errors.errorString") (by rw [star]; kernel_rfl) (by kernel_rfl) (by decide) u (by rw [star]; exact h)

set_option maxRecDepth 100000 in
/-- What a list of such variables gives: of each the cell that holds it, and its own row of cells; no two are one. -/
theorem laid_list {W : World} : ∀ (laid : List (String × DataW Unit)) (ps : List MemPlace), DataW.LaidVars Tryz.prog W laid ps →
    (∀ x ∈ laid, ∃ text, x.2 = .iface "*errors.errorString" (.ptr (.agg [.lit (.string text)]))) →
    (∀ x ∈ laid, ∀ g, Tryz.prog.globalNamed x.1 = some g → (Tryz.prog.globals[g]?).map (·.type) = some 34) →
    (∀ b off, MemPlace.cell b off ∈ ps → (∃ c t, W.heap[b]? = some (.cells c t (0, 0))) ∧ ∀ u v, W.cell? ⟨b, off, none⟩ = some (.iface u v) → Value.okWide Tryz.prog W .any 0 u v) → ps.Nodup →
    ∃ es : List Addr, es.length = laid.length ∧ es.Nodup ∧ (∀ a ∈ es, MemPlace.cell a.block a.off ∈ ps) ∧
      ∀ (i : Nat) (x : String × DataW Unit) (a : Addr), laid[i]? = some x → es[i]? = some a → ∃ g, Tryz.prog.globalNamed x.1 = some g ∧ W.cell? ⟨g, 0, none⟩ = some (errV a) ∧ ∃ c t, W.heap[a.block]? = some (.cells c t (0, 0))
  | [], ps, _, _, _, _, _ => ⟨[], rfl, List.nodup_nil, (fun _ h => by cases h), (fun i x a h => by cases h)⟩
  | (n, d) :: r, ps, h, hk, ht, hrows, hnd => by
    obtain ⟨g, t, cs, fuel, p, q, hg, hty, hv, hd, hr, rfl⟩ := h
    obtain rfl := Option.some.inj ((ht _ (List.mem_cons_self ..) g hg).symm.trans hty)
    obtain ⟨text, htext⟩ := hk _ (List.mem_cons_self ..)
    simp only at htext
    subst htext
    have hcell := World.var?_cell hg hv 0
    obtain ⟨l⟩ := cs
    have ok : ∀ u v, l = [.iface u v] → Value.okWide Tryz.prog W .any 0 u v := fun u v e => by
      subst e
      exact (hrows g 0 (by simp [MemPlace.row])).2 u v (by simpa using hcell)
    obtain ⟨a, s, rfl, _, _, _, rfl⟩ := errorString_of_trod Tryz.underlying34 rowErr Tryz.underlying191 Tryz.underlying208 rfl rfl Tryz.underlying9 (by kernel_rfl) (by kernel_rfl) hd ok
    obtain ⟨hn1, hn2, hn3⟩ := List.nodup_append.1 hnd
    obtain ⟨es, h1, h2, h3, h4⟩ := laid_list r q hr (fun x hx => hk x (List.mem_cons_of_mem _ hx)) (fun x hx => ht x (List.mem_cons_of_mem _ hx)) (fun b off hb => hrows b off (List.mem_append_right _ hb)) hn2
    refine ⟨a :: es, by simp [h1], List.nodup_cons.2 ⟨fun ha => ?_, h2⟩, fun b hb => ?_, fun i x b hx hb => ?_⟩
    · exact hn3 (MemPlace.cell a.block a.off) (List.mem_append_right _ (by simp [MemPlace.row])) _ (h3 a ha) rfl
    · rcases List.mem_cons.1 hb with rfl | hb
      · exact List.mem_append_left _ (List.mem_append_right _ (by simp [MemPlace.row]))
      · exact List.mem_append_right _ (h3 b hb)
    · match i, hx, hb with
      | 0, hx, hb =>
        simp only [List.getElem?_cons_zero, Option.some.injEq] at hx hb
        subst hx hb
        exact ⟨g, hg, by simpa [errV] using hcell, (hrows a.block a.off (List.mem_append_left _ (List.mem_append_right _ (by simp [MemPlace.row])))).1⟩
      | i + 1, hx, hb => exact h4 i x b (by simpa using hx) (by simpa using hb)

/-- The variables, by their numbers; beyond 1000: those that this seat lacks. -/
def errIds : List Nat := [1, 1000001, 9, 3, 5, 4, 2, 10, 0, 8, 1000010, 1000011, 1000012, 1000013, 1000014, 1000015]

/-- The errors that this seat has lie where they were laid. -/
structure ErrsAt (W : World) (es : List Addr) : Prop where
  len : es.length = 16
  at_ : ∀ (i g : Nat) (a : Addr) (_ : errIds[i]? = some g) (_ : es[i]? = some a) (_ : g < 1000 := by decide), W.cell? ⟨g, 0, none⟩ = some (errV a)
theorem ErrsAt.only {W W' : World} {es : List Addr} (h : ErrsAt W es) (ho : Only (fun _ => False) W W') : ErrsAt W' es :=
  ⟨h.len, fun i g a hi ha hg => ho.cellv (h.at_ i g a hi ha hg) (fun h => h)⟩
end Go.Proofs.YtlmkpembccehkaaGreatDoor
/- A seat without truchmannum.Num. -/
namespace Go.Proofs.YtlmkpembccehkaaGreatDoor
end Go.Proofs.YtlmkpembccehkaaGreatDoor
/- Of the sixteen errors those that a row lists, whichever: each by its number. -/
namespace Go.Proofs.YtlmkpembccehkaaGreatDoor
open Go Go.ChangeShapes Go.WideShapes Go.ChangeAt Go.RowKit

/-- Of the sixteen errors those of sel lie where they were laid. -/
structure ErrsOf (W : World) (sel : List Nat) (es : List Addr) : Prop where
  len : es.length = 16
  at_ : ∀ i ∈ sel, ∀ (g : Nat) (a : Addr), errIds[i]? = some g → es[i]? = some a → W.cell? ⟨g, 0, none⟩ = some (errV a)
theorem ErrsAt.of {W : World} {es : List Addr} (h : ErrsAt W es) (sel : List Nat) (hs : (sel.all fun i => decide (errIds.getD i 0 < 1000)) = true := by decide) : ErrsOf W sel es :=
  ⟨h.len, fun i hi g a hg ha => h.at_ i g a hg ha (by
    have h1 := List.all_eq_true.1 hs i hi
    rw [List.getD_eq_getElem?_getD, hg] at h1
    simpa using h1)⟩
/-- All that this seat has. -/
def errSel : List Nat := [0, 2, 3, 4, 5, 6, 7, 8, 9]
theorem ErrsOf.all {W : World} {es : List Addr} (h : ErrsOf W errSel es) : ErrsAt W es :=
  ⟨h.len, fun i g a hg ha hlt => h.at_ i (by
    have hi : i < 16 := by
      have := (List.getElem?_eq_some_iff.1 hg).1
      exact this
    have key : ∀ i < 16, errIds.getD i 0 < 1000 → i ∈ errSel := by decide
    refine key i hi ?_
    rw [List.getD_eq_getElem?_getD, hg]
    exact hlt) g a hg ha⟩
theorem ErrsOf.only {W W' : World} {sel : List Nat} {es : List Addr} (h : ErrsOf W sel es) (ho : Only (fun _ => False) W W') : ErrsOf W' sel es :=
  ⟨h.len, fun i hi g a hg ha => ho.cellv (h.at_ i hi g a hg ha) (fun h => h)⟩
/-- What may turn isn't what is listed: it was made later. -/
theorem ErrsOf.from_ {W W' : World} {sel : List Nat} {es : List Addr} {S : Nat → Prop} (h : ErrsOf W sel es) (ho : Only S W W') (hS : ∀ i ∈ sel, ∀ g, errIds[i]? = some g → ¬ S g) : ErrsOf W' sel es :=
  ⟨h.len, fun i hi g a hg ha => ho.cellv (h.at_ i hi g a hg ha) (hS i hi g hg)⟩
theorem ErrsOf.get {W : World} {sel : List Nat} {es : List Addr} (h : ErrsOf W sel es) (i g : Nat) (hi : i ∈ sel) (hg : errIds[i]? = some g) : ∃ a, es[i]? = some a ∧ W.cell? ⟨g, 0, none⟩ = some (errV a) := by
  have hl : i < es.length := by
    rw [h.len]
    have := (List.getElem?_eq_some_iff.1 hg).1
    have h16 : errIds.length = 16 := rfl
    omega
  exact ⟨_, List.getElem?_eq_getElem hl, h.at_ i hi g _ hg (List.getElem?_eq_getElem hl)⟩
theorem ErrsOf.le {W : World} {sel sel' : List Nat} {es : List Addr} (h : ErrsOf W sel es) (hs : ∀ i ∈ sel', i ∈ sel) : ErrsOf W sel' es := ⟨h.len, fun i hi => h.at_ i (hs i hi)⟩

/-- An error, or none, by its number; none is 0. -/
def ErrV (es : List Addr) (v : Value) (num : Nat) : Prop := (num = 0 ∧ v = .nilIface) ∨ ∃ i a, num = i + 1 ∧ es[i]? = some a ∧ v = errV a
theorem ErrV.nil (es : List Addr) : ErrV es .nilIface 0 := .inl ⟨rfl, rfl⟩
theorem ErrV.err {es : List Addr} {i : Nat} {a : Addr} (h : es[i]? = some a) (k : Nat) (hk : k = i + 1) : ErrV es (errV a) k := .inr ⟨i, a, hk, h, rfl⟩

/-- A row's list of some of them. -/
theorem errs_of_sel {W : World} (sel : List Nat) (laid : List (String × DataW Unit)) (h : laidMet Tryz.prog laid W) (hids : (laid.map fun x => Tryz.prog.globalNamed x.1) = sel.map fun i => errIds[i]?) (_ : sel.Nodup)
    (hk : ∀ x ∈ laid, ∃ text, x.2 = .iface "*errors.errorString" (.ptr (.agg [.lit (.string text)])))
    (hty : (sel.all fun i => (errIds[i]?).any fun g => (Tryz.prog.globals[g]?).map (·.type) == some 34) = true) (hsel : ∀ i ∈ sel, i < 16) : ∃ es, ErrsOf W sel es := by
  obtain ⟨ps, hv, hnd', hrows⟩ := h
  have hlen : laid.length = sel.length := by
    have := congrArg List.length hids
    simpa using this
  have h16 : errIds.length = 16 := rfl
  have hget : ∀ (j : Nat) (x : String × DataW Unit), laid[j]? = some x → ∃ i g, sel[j]? = some i ∧ errIds[i]? = some g ∧ Tryz.prog.globalNamed x.1 = some g := fun j x hx => by
    have h1 : (laid.map fun x => Tryz.prog.globalNamed x.1)[j]? = some (Tryz.prog.globalNamed x.1) := by rw [List.getElem?_map, hx]; rfl
    have hj : j < sel.length := by have := (List.getElem?_eq_some_iff.1 hx).1; omega
    rw [hids, List.getElem?_map, List.getElem?_eq_getElem hj] at h1
    simp only [Option.map_some, Option.some.injEq] at h1
    have hlt := hsel _ (List.getElem_mem hj)
    refine ⟨_, errIds[sel[j]]'(by omega), List.getElem?_eq_getElem hj, List.getElem?_eq_getElem (by omega), ?_⟩
    rw [← h1]
    exact List.getElem?_eq_getElem (by omega)
  obtain ⟨es, h1, h2, _, h4⟩ := laid_list laid ps hv hk (fun x hx g hg => by
    obtain ⟨j, hj⟩ := List.getElem?_of_mem hx
    obtain ⟨i, g', hi', hg', hg''⟩ := hget j x hj
    rw [hg] at hg''
    injection hg'' with e
    subst e
    have := List.all_eq_true.1 hty i (List.mem_of_getElem? hi')
    rw [hg'] at this
    simpa using this) hrows hnd'
  refine ⟨(List.range 16).map fun i => es.getD (sel.idxOf i) ⟨0, 0, none⟩, by simp, fun i hi g a hg ha => ?_⟩
  have hj : sel.idxOf i < sel.length := List.idxOf_lt_length_of_mem hi
  have hji : sel[sel.idxOf i]? = some i := by rw [List.getElem?_eq_getElem hj, List.getElem_idxOf hj]
  rw [List.getElem?_map, List.getElem?_range (hsel i hi)] at ha
  simp only [Option.map_some, Option.some.injEq] at ha
  generalize sel.idxOf i = j at *
  have hjl : j < laid.length := by omega
  have hje : es[j]? = some a := by
    rw [List.getD_eq_getElem?_getD, List.getElem?_eq_getElem (by omega)] at ha
    rw [List.getElem?_eq_getElem (by omega)]
    simpa using ha
  obtain ⟨g1, hg1, hc, _⟩ := h4 j _ a (List.getElem?_eq_getElem hjl) hje
  obtain ⟨i2, g2, hi2, hg2, hg3⟩ := hget j _ (List.getElem?_eq_getElem hjl)
  rw [hji] at hi2
  injection hi2 with e
  subst e
  rw [hg1] at hg3
  injection hg3 with e
  subst e
  rw [hg] at hg2
  injection hg2 with e
  subst e
  exact hc
end Go.Proofs.YtlmkpembccehkaaGreatDoor
/- Modes: what a number is, a body told, heads and tails in memory, what they have. -/
namespace Go.Proofs.YtlmkpembccehkaaGreatDoor
open Go Go.RowKit
set_option maxRecDepth 100000
set_option maxHeartbeats 4000000

theorem mdRight_any (w : World) {m : Int} (hm : In64 m) : Calls Tryz.prog 108 #[.int .i64 m] w fun e w' => e = .returned (.bool (isMask m)) ∧ w' = w := by
  have h := right_bits hm
  obtain ⟨z, hz⟩ : ∃ z, z = bits .andNot .i64 m 27 := ⟨_, rfl⟩
  rw [← hz] at h
  have hb := hz.symm
  obtain ⟨p, hp⟩ : ∃ p, p = isMask m := ⟨_, rfl⟩
  rw [← hp] at h ⊢
  have h2 : decide (z = 0) = p := by rw [← h]; rfl
  clear hz hp
  cases p
  all_goals
    go_enter Tryz.func108, Tryz.ntmps108
    go_wp2
    go_ret
    exact ⟨rfl, rfl⟩

theorem mdTell_any (w : World) {m : Int} (h0 : 0 ≤ m) (h1 : m ≤ 255) : Calls Tryz.prog 105 #[.int .i64 m] w fun e w' => e = .returned (.slice (some ⟨w.heap.size, 0, none⟩) 2 2) ∧ Hid (Src w' (some ⟨w.heap.size, 0, none⟩) 2 (bodyM m)) ∧ Hid (Only (fun _ => False) w w') := by
  have hb : (#[.int .u8 1, .int .u8 m] : Array Value) = ((bodyM m).map B8).toArray := by
    simp only [bodyM, List.map_cons, List.map_nil, B8, b8_int h0 h1]
    rfl
  go_enter Tryz.func105, Tryz.ntmps105
  go_wp2
  go_ret
  exact ⟨rfl, src_new w (bodyM m) _ 5 _ 2 rfl rfl, (Only.refl _ _).alloc _⟩

/-- A head, in memory. -/
def HdAt (w : World) (p : Nat) (m : Int) (b : Bool) : Prop := Blk w p 82 [.int .i64 m, .bool b]
/-- A tail. -/
def TlAt (w : World) (q : Nat) (can m : Int) : Prop := Blk w q 84 [.int .i64 can, .int .i64 m]

theorem mdNewHead_any (w : World) : Calls Tryz.prog 47 #[] w fun e w' => e = .returned (.pointer (some ⟨w.heap.size, 0, none⟩)) ∧ Hid (HdAt w' w.heap.size 0 false) ∧ Hid (w'.heap.size = w.heap.size + 1) ∧ Hid (Only (fun _ => False) w w') := by
  go_enter Tryz.func47, Tryz.ntmps47
  go_wp2
  go_ret
  exact ⟨rfl, Blk.new w _ [.int .i64 0, .bool false], show (w.alloc _).heap.size = _ by simp, (Only.refl _ _).alloc _⟩
theorem mdNewTail_any (w : World) (can : Int) : Calls Tryz.prog 48 #[.int .i64 can] w fun e w' => e = .returned (.pointer (some ⟨w.heap.size, 0, none⟩)) ∧ Hid (TlAt w' w.heap.size (canOf can) 0) ∧ Hid (w'.heap.size = w.heap.size + 1) ∧ Hid (Only (fun _ => False) w w') := by
  have hb : bits .and .i64 can 27 = canOf can := rfl
  go_enter Tryz.func48, Tryz.ntmps48
  go_wp2
  go_ret
  exact ⟨rfl, Blk.new w _ [.int .i64 (canOf can), .int .i64 0], show (w.alloc _).heap.size = _ by simp, (Only.refl _ _).alloc _⟩

theorem mdMask_any {w : World} {p : Nat} {m : Int} {b : Bool} (h : HdAt w p m b) : Calls Tryz.prog 31 #[.pointer (some ⟨p, 0, none⟩)] w fun e w' => e = .returned (.int .i64 m) ∧ w' = w := by
  have c0 := Blk.cell h 0
  simp only [List.getElem?_cons_zero] at c0
  go_enter Tryz.func31, Tryz.ntmps31
  go_wp2
  go_ret
  exact ⟨rfl, rfl⟩
theorem mdWaits_any {w : World} {p : Nat} {m : Int} {b : Bool} (h : HdAt w p m b) : Calls Tryz.prog 34 #[.pointer (some ⟨p, 0, none⟩)] w fun e w' => e = .returned (.bool b) ∧ w' = w := by
  have c1 := Blk.cell h 1
  simp only [List.getElem?_cons_zero, List.getElem?_cons_succ] at c1
  go_enter Tryz.func34, Tryz.ntmps34
  go_wp2
  go_ret
  exact ⟨rfl, rfl⟩
theorem mdTMask_any {w : World} {q : Nat} {can m : Int} (h : TlAt w q can m) : Calls Tryz.prog 32 #[.pointer (some ⟨q, 0, none⟩)] w fun e w' => e = .returned (.int .i64 m) ∧ w' = w := by
  have c1 := Blk.cell h 1
  simp only [List.getElem?_cons_zero, List.getElem?_cons_succ] at c1
  go_enter Tryz.func32, Tryz.ntmps32
  go_wp2
  go_ret
  exact ⟨rfl, rfl⟩
end Go.Proofs.YtlmkpembccehkaaGreatDoor
