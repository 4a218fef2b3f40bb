/- Of the sixteen errors those that a row lists, whichever: each by its number. -/
import Derived.Test.YtgknhojjnnljkaaDoorNum
namespace Go.Proofs.YtgknhojjnnljkaaDoor
open Go Go.ChangeShapes Go.WideShapes Go.ChangeAt Go.RowKit

/-- Of the sixteen errors those of sel lie where they were laid. -/
structure ErrsOf (W : World) (sel : List Nat) (es : List Addr) : Prop where
  len : es.length = 16
  at_ : ∀ i ∈ sel, ∀ (g : Nat) (a : Addr), errIds[i]? = some g → es[i]? = some a → W.cell? ⟨g, 0, none⟩ = some (errV a)
theorem ErrsAt.of {W : World} {es : List Addr} (h : ErrsAt W es) (sel : List Nat) : ErrsOf W sel es := ⟨h.len, fun i _ g a => h.at_ i g a⟩
theorem ErrsOf.only {W W' : World} {sel : List Nat} {es : List Addr} (h : ErrsOf W sel es) (ho : Only (fun _ => False) W W') : ErrsOf W' sel es :=
  ⟨h.len, fun i hi g a hg ha => ho.cellv (h.at_ i hi g a hg ha) (fun h => h)⟩
/-- What may turn isn't what is listed: it was made later. -/
theorem ErrsOf.from_ {W W' : World} {sel : List Nat} {es : List Addr} {S : Nat → Prop} (h : ErrsOf W sel es) (ho : Only S W W') (hS : ∀ i ∈ sel, ∀ g, errIds[i]? = some g → ¬ S g) : ErrsOf W' sel es :=
  ⟨h.len, fun i hi g a hg ha => ho.cellv (h.at_ i hi g a hg ha) (hS i hi g hg)⟩
theorem ErrsOf.get {W : World} {sel : List Nat} {es : List Addr} (h : ErrsOf W sel es) (i g : Nat) (hi : i ∈ sel) (hg : errIds[i]? = some g) : ∃ a, es[i]? = some a ∧ W.cell? ⟨g, 0, none⟩ = some (errV a) := by
  have hl : i < es.length := by
    rw [h.len]
    have := (List.getElem?_eq_some_iff.1 hg).1
    have h16 : errIds.length = 16 := rfl
    omega
  exact ⟨_, List.getElem?_eq_getElem hl, h.at_ i hi g _ hg (List.getElem?_eq_getElem hl)⟩
theorem ErrsOf.le {W : World} {sel sel' : List Nat} {es : List Addr} (h : ErrsOf W sel es) (hs : ∀ i ∈ sel', i ∈ sel) : ErrsOf W sel' es := ⟨h.len, fun i hi => h.at_ i (hs i hi)⟩

/-- An error, or none, by its number; none is 0. -/
def ErrV (es : List Addr) (v : Value) (num : Nat) : Prop := (num = 0 ∧ v = .nilIface) ∨ ∃ i a, num = i + 1 ∧ es[i]? = some a ∧ v = errV a
theorem num_any {W : World} {es : List Addr} (h : ErrsAt W es) {v : Value} {num : Nat} (hv : ErrV es v num) :
    Calls Tryd.prog 9 #[v] W fun e w' => e = .returned (.int .i64 (num : Int)) ∧ Only (fun _ => False) W w' := by
  rcases hv with ⟨rfl, rfl⟩ | ⟨i, a, rfl, ha, rfl⟩
  · refine (num_nil W).mono ?_
    rintro e w' ⟨rfl, rfl⟩
    exact ⟨rfl, Only.refl _ _⟩
  · exact num_err h i a ha
theorem ErrV.nil (es : List Addr) : ErrV es .nilIface 0 := .inl ⟨rfl, rfl⟩
theorem ErrV.err {es : List Addr} {i : Nat} {a : Addr} (h : es[i]? = some a) (k : Nat) (hk : k = i + 1) : ErrV es (errV a) k := .inr ⟨i, a, hk, h, rfl⟩

/-- A row's list of some of them. -/
theorem errs_of_sel {W : World} (sel : List Nat) (laid : List (String × DataW Unit)) (h : laidMet Tryd.prog laid W) (hids : (laid.map fun x => Tryd.prog.globalNamed x.1) = sel.map fun i => errIds[i]?) (_ : sel.Nodup)
    (hk : ∀ x ∈ laid, ∃ text, x.2 = .iface "*errors.errorString" (.ptr (.agg [.lit (.string text)])))
    (hty : (errIds.all fun g => (Tryd.prog.globals[g]?).map (·.type) == some 27) = true) (hsel : ∀ i ∈ sel, i < 16) : ∃ es, ErrsOf W sel es := by
  obtain ⟨ps, hv, hnd', hrows⟩ := h
  have hlen : laid.length = sel.length := by
    have := congrArg List.length hids
    simpa using this
  have h16 : errIds.length = 16 := rfl
  have hget : ∀ (j : Nat) (x : String × DataW Unit), laid[j]? = some x → ∃ i g, sel[j]? = some i ∧ errIds[i]? = some g ∧ Tryd.prog.globalNamed x.1 = some g := fun j x hx => by
    have h1 : (laid.map fun x => Tryd.prog.globalNamed x.1)[j]? = some (Tryd.prog.globalNamed x.1) := by rw [List.getElem?_map, hx]; rfl
    have hj : j < sel.length := by have := (List.getElem?_eq_some_iff.1 hx).1; omega
    rw [hids, List.getElem?_map, List.getElem?_eq_getElem hj] at h1
    simp only [Option.map_some, Option.some.injEq] at h1
    have hlt := hsel _ (List.getElem_mem hj)
    refine ⟨_, errIds[sel[j]]'(by omega), List.getElem?_eq_getElem hj, List.getElem?_eq_getElem (by omega), ?_⟩
    rw [← h1]
    exact List.getElem?_eq_getElem (by omega)
  obtain ⟨es, h1, h2, _, h4⟩ := laid_list laid ps hv hk (fun x hx g hg => by
    obtain ⟨j, hj⟩ := List.getElem?_of_mem hx
    obtain ⟨i, g', _, hg', hg''⟩ := hget j x hj
    rw [hg] at hg''
    injection hg'' with e
    subst e
    have := List.all_eq_true.1 hty g (List.mem_of_getElem? hg')
    simpa using this) hrows hnd'
  refine ⟨(List.range 16).map fun i => es.getD (sel.idxOf i) ⟨0, 0, none⟩, by simp, fun i hi g a hg ha => ?_⟩
  have hj : sel.idxOf i < sel.length := List.idxOf_lt_length_of_mem hi
  have hji : sel[sel.idxOf i]? = some i := by rw [List.getElem?_eq_getElem hj, List.getElem_idxOf hj]
  rw [List.getElem?_map, List.getElem?_range (hsel i hi)] at ha
  simp only [Option.map_some, Option.some.injEq] at ha
  generalize sel.idxOf i = j at *
  have hjl : j < laid.length := by omega
  have hje : es[j]? = some a := by
    rw [List.getD_eq_getElem?_getD, List.getElem?_eq_getElem (by omega)] at ha
    rw [List.getElem?_eq_getElem (by omega)]
    simpa using ha
  obtain ⟨g1, hg1, hc, _⟩ := h4 j _ a (List.getElem?_eq_getElem hjl) hje
  obtain ⟨i2, g2, hi2, hg2, hg3⟩ := hget j _ (List.getElem?_eq_getElem hjl)
  rw [hji] at hi2
  injection hi2 with e
  subst e
  rw [hg1] at hg3
  injection hg3 with e
  subst e
  rw [hg] at hg2
  injection hg2 with e
  subst e
  exact hc
end Go.Proofs.YtgknhojjnnljkaaDoor
