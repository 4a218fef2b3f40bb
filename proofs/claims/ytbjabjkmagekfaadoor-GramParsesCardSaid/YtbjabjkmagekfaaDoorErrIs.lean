/- Of the sixteen errors those that a row lists, whichever, and that no two of them are one: errors.Is of two of them, and of none. -/
import Derived.Test.YtbjabjkmagekfaaDoorErrSel
namespace Go.Proofs.YtbjabjkmagekfaaDoor
open Go Go.ChangeShapes Go.WideShapes Go.ChangeAt Go.RowKit

/-- .. where each lies in a row of its own, and no two are one. -/
structure ErrsIs (W : World) (sel : List Nat) (es : List Addr) : Prop where
  of : ErrsOf W sel es
  other : ∀ i ∈ sel, ∀ j ∈ sel, i ≠ j → ∀ a b : Addr, es[i]? = some a → es[j]? = some b → a ≠ b
  row : ∀ i ∈ sel, ∀ a : Addr, es[i]? = some a → ∃ c t, W.heap[a.block]? = some (.cells c t (0, 0))
theorem ErrsIs.only {W W' : World} {sel : List Nat} {es : List Addr} (h : ErrsIs W sel es) (ho : Only (fun _ => False) W W') : ErrsIs W' sel es :=
  ⟨h.of.only ho, h.other, fun i hi a ha => by
    obtain ⟨c, t, hc⟩ := h.row i hi a ha
    exact ⟨c, t, (ho.block _ (Array.getElem?_eq_some_iff.1 hc).1 (fun h => h)).trans hc⟩⟩
theorem ErrsIs.le {W : World} {sel sel' : List Nat} {es : List Addr} (h : ErrsIs W sel es) (hs : ∀ i ∈ sel', i ∈ sel) : ErrsIs W sel' es :=
  ⟨h.of.le hs, fun i hi j hj => h.other i (hs i hi) j (hs j hj), fun i hi => h.row i (hs i hi)⟩
theorem ErrsAt.is_ {W : World} {es : List Addr} (h : ErrsAt W es) (sel : List Nat) : ErrsIs W sel es :=
  ⟨h.of sel, fun i _ j _ hij a b ha hb e => by
    subst e
    rw [← hb] at ha
    exact hij ((List.getElem?_inj (List.getElem?_eq_some_iff.1 (ha.trans hb)).1 h.nodup).1 ha), fun i _ => h.row i⟩

set_option maxRecDepth 100000
theorem is_nil (b : Addr) (w : World) : Calls Tryd.prog 27 #[.nilIface, errV b] w fun e w' => e = .returned (.bool false) ∧ w = w' := by
  unfold errV
  have heq := run_eql_iface_nil_left (P := Tryd.prog) (w := w) 88 (.pointer (some b)) Tryd.underlying27
  go_enter Tryd.func27, Tryd.ntmps27
  go_wp2
  go_ret
  exact ⟨rfl, rfl⟩

/-- A row's list of some of them. -/
theorem errs_is_of_sel {W : World} (sel : List Nat) (laid : List (String × DataW Unit)) (h : laidMet Tryd.prog laid W) (hids : (laid.map fun x => Tryd.prog.globalNamed x.1) = sel.map fun i => errIds[i]?) (_ : sel.Nodup)
    (hk : ∀ x ∈ laid, ∃ text, x.2 = .iface "*errors.errorString" (.ptr (.agg [.lit (.string text)])))
    (hty : (errIds.all fun g => (Tryd.prog.globals[g]?).map (·.type) == some 27) = true) (hsel : ∀ i ∈ sel, i < 16) : ∃ es, ErrsIs W sel es := by
  obtain ⟨ps, hv, hnd', hrows⟩ := h
  have hlen : laid.length = sel.length := by
    have := congrArg List.length hids
    simpa using this
  have h16 : errIds.length = 16 := rfl
  have hget : ∀ (j : Nat) (x : String × DataW Unit), laid[j]? = some x → ∃ i g, sel[j]? = some i ∧ errIds[i]? = some g ∧ Tryd.prog.globalNamed x.1 = some g := fun j x hx => by
    have h1 : (laid.map fun x => Tryd.prog.globalNamed x.1)[j]? = some (Tryd.prog.globalNamed x.1) := by rw [List.getElem?_map, hx]; rfl
    have hj : j < sel.length := by have := (List.getElem?_eq_some_iff.1 hx).1; omega
    rw [hids, List.getElem?_map, List.getElem?_eq_getElem hj] at h1
    simp only [Option.map_some, Option.some.injEq] at h1
    have hlt := hsel _ (List.getElem_mem hj)
    refine ⟨_, errIds[sel[j]]'(by omega), List.getElem?_eq_getElem hj, List.getElem?_eq_getElem (by omega), ?_⟩
    rw [← h1]
    exact List.getElem?_eq_getElem (by omega)
  obtain ⟨es, h1, h2, _, h4⟩ := laid_list laid ps hv hk (fun x hx g hg => by
    obtain ⟨j, hj⟩ := List.getElem?_of_mem hx
    obtain ⟨i, g', _, hg', hg''⟩ := hget j x hj
    rw [hg] at hg''
    injection hg'' with e
    subst e
    have := List.all_eq_true.1 hty g (List.mem_of_getElem? hg')
    simpa using this) hrows hnd'
  have key : ∀ i ∈ sel, ∀ a : Addr, ((List.range 16).map fun i => es.getD (sel.idxOf i) ⟨0, 0, none⟩)[i]? = some a → ∃ j, sel[j]? = some i ∧ j < laid.length ∧ es[j]? = some a := fun i hi a ha => by
    have hj : sel.idxOf i < sel.length := List.idxOf_lt_length_of_mem hi
    have hji : sel[sel.idxOf i]? = some i := by rw [List.getElem?_eq_getElem hj, List.getElem_idxOf hj]
    rw [List.getElem?_map, List.getElem?_range (hsel i hi)] at ha
    simp only [Option.map_some, Option.some.injEq] at ha
    refine ⟨_, hji, by omega, ?_⟩
    rw [List.getD_eq_getElem?_getD, List.getElem?_eq_getElem (by omega)] at ha
    rw [List.getElem?_eq_getElem (by omega)]
    simpa using ha
  refine ⟨(List.range 16).map fun i => es.getD (sel.idxOf i) ⟨0, 0, none⟩, ⟨by simp, fun i hi g a hg ha => ?_⟩, fun i hi i' hi' hne a b ha hb e => ?_, fun i hi a ha => ?_⟩
  · obtain ⟨j, hji, hjl, hje⟩ := key i hi a ha
    obtain ⟨g1, hg1, hc, _⟩ := h4 j _ a (List.getElem?_eq_getElem hjl) hje
    obtain ⟨i2, g2, hi2, hg2, hg3⟩ := hget j _ (List.getElem?_eq_getElem hjl)
    rw [hji] at hi2
    injection hi2 with e
    subst e
    rw [hg1] at hg3
    injection hg3 with e
    subst e
    rw [hg] at hg2
    injection hg2 with e
    subst e
    exact hc
  · subst e
    obtain ⟨j, hji, _, hje⟩ := key i hi a ha
    obtain ⟨j', hji', _, hje'⟩ := key i' hi' a hb
    rw [← hje'] at hje
    obtain rfl := (List.getElem?_inj (List.getElem?_eq_some_iff.1 (hje.trans hje')).1 h2).1 hje
    rw [hji] at hji'
    injection hji' with e
    exact hne e
  · obtain ⟨j, _, hjl, hje⟩ := key i hi a ha
    obtain ⟨_, _, _, hr⟩ := h4 j _ a (List.getElem?_eq_getElem hjl) hje
    exact hr
end Go.Proofs.YtbjabjkmagekfaaDoor
