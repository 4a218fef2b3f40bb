
/- Tables at package level: what a row's list of them gives a walk: a table of texts, a table of numbers, an error of the library's; and that all stay where nothing old turns. -/
import Derived.Test.YtlmkpembccehkaaGreatDoorFinish
import Derived.LaidLaws
import Derived.Lib.LaidTab
namespace Go.Proofs.YtlmkpembccehkaaGreatDoor
open Go Go.RowKit

/-- Block g holds these texts, one a cell. -/
def TextsAt (W : World) (g : Nat) (ws : List (List UInt8)) : Prop := ∀ (i : Nat) (s : List UInt8), ws[i]? = some s → W.cell? ⟨g, i, none⟩ = some (.string ⟨s.toArray⟩)
theorem TextsAt.only {W W' : World} {g : Nat} {ws : List (List UInt8)} (h : TextsAt W g ws) (ho : Only (fun _ => False) W W') : TextsAt W' g ws := fun i s hs => ho.cellv (h i s hs) (fun h => h)

/-- A variable that is listed, wherever it stands. -/
theorem listed {P : Program} {W : World} : ∀ {l : List (String × DataW Unit)} {ps : List MemPlace}, DataW.LaidVars P W l ps → ∀ {n : String} {d : DataW Unit}, (n, d) ∈ l →
    ∃ g t cs fuel p, P.globalNamed n = some g ∧ (P.globals[g]?).map (·.type) = some t ∧ W.var? P n = some cs ∧ DataW.trod (fun _ => ()) P W 0 (fun _ => true) false fuel t cs.toList = some (d, p)
  | [], _, _, _, _, hm => by cases hm
  | (_, _) :: r, _, h, n, d, hm => by
    obtain ⟨g, t, cs, fuel, p, q, h1, h2, h3, h4, h5, _⟩ := h
    rcases List.mem_cons.1 hm with e | hm
    · cases e
      exact ⟨g, t, cs, fuel, p, h1, h2, h3, h4⟩
    · exact listed h5 hm

/-- The datum of a table of texts. -/
def texts {H : Type} (ws : List (List UInt8)) : DataW H := .agg (ws.map fun s => .lit (.string s))

theorem texts_of {P : Program} {W : World} {l : List (String × DataW Unit)} (h : laidMet P l W) {n : String} {ws : List (List UInt8)} (hm : (n, texts ws) ∈ l) {g : Nat} {t e : TypeId} {k : Nat}
    (hg : P.globalNamed n = some g) (hty : (P.globals[g]?).map (·.type) = some t) (ht : P.underlying t = some (.array k e)) (he : P.underlying e = some .string) (hc : P.cellsOf e = 1) : TextsAt W g ws := by
  obtain ⟨ps, hv, _, _⟩ := h
  obtain ⟨g', t', cs, fuel, p, hg', hty', hvar, hd⟩ := listed hv hm
  obtain rfl := Option.some.inj (hg.symm.trans hg')
  obtain rfl := Option.some.inj (hty.symm.trans hty')
  obtain ⟨xs, m, _, hx, _, hxl, hel⟩ := DataW.trod_array ht hd
  have hds : ws.map (fun s => (DataW.lit (.string s) : DataW Unit)) = xs.map (·.1) := by
    have := congrArg Prod.fst hx
    simpa [texts] using this
  intro i s hs
  have hlen := congrArg List.length hds
  rw [List.length_map, List.length_map] at hlen
  have hi : i < k := by have := (List.getElem?_eq_some_iff.1 hs).1; omega
  have h1 := hel i hi
  have hxi : xs[i]? = some xs[i] := List.getElem?_eq_getElem (by omega)
  rw [hxi, hc, Nat.mul_one] at h1
  obtain ⟨b, e1, e2, _⟩ := DataW.trod_string he h1
  have h2 : (ws.map (fun s => (DataW.lit (.string s) : DataW Unit)))[i]? = some (xs[i]).1 := by rw [hds, List.getElem?_map, hxi]; rfl
  rw [List.getElem?_map, hs, e2] at h2
  simp only [Option.map_some, Option.some.injEq, DataW.lit.injEq, Lit.string.injEq] at h2
  have h3 : cs[i]? = some (.string b) := by
    have := congrArg (·[0]?) e1
    simpa using this
  rw [World.var?_cell hg hvar i, h3, h2]

theorem tab_of {P : Program} {W : World} {l : List (String × DataW Unit)} (h : laidMet P l W) {n : String} {k : IntKind} {zs : List Int} (hm : (n, Lib.tabData k zs) ∈ l) {g : Nat} {t e : TypeId} {c : Nat}
    (hg : P.globalNamed n = some g) (hty : (P.globals[g]?).map (·.type) = some t) (ht : P.underlying t = some (.array c e)) (he : P.underlying e = some (.int k)) (hce : P.cellsOf e = 1) (hct : P.cellsOf t = c) : Lib.TabIs P W n k zs := by
  obtain ⟨ps, hv, _, _⟩ := h
  obtain ⟨g', t', cs, fuel, p, hg', hty', hvar, hd⟩ := listed hv hm
  obtain rfl := Option.some.inj (hg.symm.trans hg')
  obtain rfl := Option.some.inj (hty.symm.trans hty')
  unfold Lib.TabIs
  rw [hvar, ← Lib.cells_of_tab ht he hce hct hd]

/-- A variable that holds an interface's value that is not nil. -/
def ErrAt (P : Program) (W : World) (n : String) : Prop := ∃ u v, W.var? P n = some #[.iface u v]
theorem err_of {P : Program} {W : World} {l : List (String × DataW Unit)} (h : laidMet P l W) {n nm : String} {d : DataW Unit} (hm : (n, .iface nm d) ∈ l) {g : Nat} {t : TypeId} {ms : Array (String × TypeId)}
    (hg : P.globalNamed n = some g) (hty : (P.globals[g]?).map (·.type) = some t) (ht : P.underlying t = some (.interface ms)) : ErrAt P W n := by
  obtain ⟨ps, hv, _, _⟩ := h
  obtain ⟨g', t', cs, fuel, p, hg', hty', hvar, hd⟩ := listed hv hm
  obtain rfl := Option.some.inj (hg.symm.trans hg')
  obtain rfl := Option.some.inj (hty.symm.trans hty')
  obtain ⟨_, u, v, e, _, _⟩ := iface_of_trod ht hd
  obtain ⟨cs⟩ := cs
  simp only at e
  subst e
  exact ⟨u, v, hvar⟩

theorem var_only {P : Program} {W W' : World} {n : String} {cs : Array Value} (h : W.var? P n = some cs) (ho : Only (fun _ => False) W W') : W'.var? P n = some cs := by
  unfold World.var? at h ⊢
  cases hg : P.globalNamed n with
  | none => simp [hg] at h
  | some g =>
    simp only [hg, Option.bind_some] at h ⊢
    have hlt : g < W.heap.size := by
      rcases Nat.lt_or_ge g W.heap.size with h' | h'
      · exact h'
      · simp [Array.getElem?_eq_none h'] at h
    rw [ho.block g hlt (fun h => h)]
    exact h
theorem ErrAt.only {P : Program} {W W' : World} {n : String} (h : ErrAt P W n) (ho : Only (fun _ => False) W W') : ErrAt P W' n := by
  obtain ⟨u, v, h⟩ := h
  exact ⟨u, v, var_only h ho⟩
theorem tab_only {P : Program} {W W' : World} {n : String} {k : IntKind} {zs : List Int} (h : Lib.TabIs P W n k zs) (ho : Only (fun _ => False) W W') : Lib.TabIs P W' n k zs := var_only h ho
end Go.Proofs.YtlmkpembccehkaaGreatDoor
