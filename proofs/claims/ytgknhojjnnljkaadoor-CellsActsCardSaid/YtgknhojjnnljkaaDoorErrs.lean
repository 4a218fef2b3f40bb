/- The sixteen errors of package api: what the program's text lays, errors.Is of two of them, and truchmannum.Num of each: its number. -/
import Derived.Test.YtgknhojjnnljkaaDoorFinish
import Derived.LaidEql
import Derived.LaidLaws
import Derived.Stop.Asserts
import Derived.RowKitTokens
import Derived.Outline
namespace Go.Proofs.YtgknhojjnnljkaaDoor
open Go Go.ChangeShapes Go.WideShapes Go.ChangeAt Go.RowKit Go.Extern.Stop Go.Stop Go.Extern

/-- An error of errors.New's make, es a value. -/
def errV (a : Addr) : Value := .iface 118 (.pointer (some a))

theorem star : "*" ++ "errors.errorString" = "*errors.errorString" := by decide
theorem rowErr (u : TypeId) (h : Tryd.prog.typeName? 3 u = some "*errors.errorString") : u = 118 :=
  typeName_ptr_named (nm := "errors.errorString") (by rw [star]; kernel_rfl) (by kernel_rfl) (by decide) u (by rw [star]; exact h)

set_option maxRecDepth 100000 in
/-- What a list of such variables gives: of each the cell that holds it, and its own row of cells; no two are one. -/
theorem laid_list {W : World} : ∀ (laid : List (String × DataW Unit)) (ps : List MemPlace), DataW.LaidVars Tryd.prog W laid ps →
    (∀ x ∈ laid, ∃ text, x.2 = .iface "*errors.errorString" (.ptr (.agg [.lit (.string text)]))) →
    (∀ x ∈ laid, ∀ g, Tryd.prog.globalNamed x.1 = some g → (Tryd.prog.globals[g]?).map (·.type) = some 27) →
    (∀ b off, MemPlace.cell b off ∈ ps → (∃ c t, W.heap[b]? = some (.cells c t (0, 0))) ∧ ∀ u v, W.cell? ⟨b, off, none⟩ = some (.iface u v) → Value.okWide Tryd.prog W .any 0 u v) → ps.Nodup →
    ∃ es : List Addr, es.length = laid.length ∧ es.Nodup ∧ (∀ a ∈ es, MemPlace.cell a.block a.off ∈ ps) ∧
      ∀ (i : Nat) (x : String × DataW Unit) (a : Addr), laid[i]? = some x → es[i]? = some a → ∃ g, Tryd.prog.globalNamed x.1 = some g ∧ W.cell? ⟨g, 0, none⟩ = some (errV a) ∧ ∃ c t, W.heap[a.block]? = some (.cells c t (0, 0))
  | [], ps, _, _, _, _, _ => ⟨[], rfl, List.nodup_nil, (fun _ h => by cases h), (fun i x a h => by cases h)⟩
  | (n, d) :: r, ps, h, hk, ht, hrows, hnd => by
    obtain ⟨g, t, cs, fuel, p, q, hg, hty, hv, hd, hr, rfl⟩ := h
    obtain rfl := Option.some.inj ((ht _ (List.mem_cons_self ..) g hg).symm.trans hty)
    obtain ⟨text, htext⟩ := hk _ (List.mem_cons_self ..)
    simp only at htext
    subst htext
    have hcell := World.var?_cell hg hv 0
    obtain ⟨l⟩ := cs
    have ok : ∀ u v, l = [.iface u v] → Value.okWide Tryd.prog W .any 0 u v := fun u v e => by
      subst e
      exact (hrows g 0 (by simp [MemPlace.row])).2 u v (by simpa using hcell)
    obtain ⟨a, s, rfl, _, _, _, rfl⟩ := errorString_of_trod Tryd.underlying27 rowErr Tryd.underlying118 Tryd.underlying143 rfl rfl Tryd.underlying9 (by kernel_rfl) (by kernel_rfl) hd ok
    obtain ⟨hn1, hn2, hn3⟩ := List.nodup_append.1 hnd
    obtain ⟨es, h1, h2, h3, h4⟩ := laid_list r q hr (fun x hx => hk x (List.mem_cons_of_mem _ hx)) (fun x hx => ht x (List.mem_cons_of_mem _ hx)) (fun b off hb => hrows b off (List.mem_append_right _ hb)) hn2
    refine ⟨a :: es, by simp [h1], List.nodup_cons.2 ⟨fun ha => ?_, h2⟩, fun b hb => ?_, fun i x b hx hb => ?_⟩
    · exact hn3 (MemPlace.cell a.block a.off) (List.mem_append_right _ (by simp [MemPlace.row])) _ (h3 a ha) rfl
    · rcases List.mem_cons.1 hb with rfl | hb
      · exact List.mem_append_left _ (List.mem_append_right _ (by simp [MemPlace.row]))
      · exact List.mem_append_right _ (h3 b hb)
    · match i, hx, hb with
      | 0, hx, hb =>
        simp only [List.getElem?_cons_zero, Option.some.injEq] at hx hb
        subst hx hb
        exact ⟨g, hg, by simpa [errV] using hcell, (hrows a.block a.off (List.mem_append_left _ (List.mem_append_right _ (by simp [MemPlace.row])))).1⟩
      | i + 1, hx, hb => exact h4 i x b (by simpa using hx) (by simpa using hb)

/-- The variables, by their numbers. -/
def errIds : List Nat := [0, 1, 2, 3, 4, 5, 6, 7, 8, 9, 10, 11, 12, 13, 14, 15]

/-- The sixteen errors lie where they were laid. -/
structure ErrsAt (W : World) (es : List Addr) : Prop where
  len : es.length = 16
  nodup : es.Nodup
  at_ : ∀ (i g : Nat) (a : Addr), errIds[i]? = some g → es[i]? = some a → W.cell? ⟨g, 0, none⟩ = some (errV a)
  row : ∀ (i : Nat) (a : Addr), es[i]? = some a → ∃ c t, W.heap[a.block]? = some (.cells c t (0, 0))

/-- A row's list of all sixteen, as the premise on memory has it. -/
theorem errs_of_list {W : World} (laid : List (String × DataW Unit)) (h : laidMet Tryd.prog laid W) (hids : (laid.map fun x => Tryd.prog.globalNamed x.1) = errIds.map some)
    (hk : ∀ x ∈ laid, ∃ text, x.2 = .iface "*errors.errorString" (.ptr (.agg [.lit (.string text)])))
    (hty : (errIds.all fun g => (Tryd.prog.globals[g]?).map (·.type) == some 27) = true) : ∃ es, ErrsAt W es := by
  obtain ⟨ps, hv, hnd, hrows⟩ := h
  have hlen : laid.length = 16 := by
    have := congrArg List.length hids
    simpa [errIds] using this
  have hget : ∀ (i : Nat) (x : String × DataW Unit), laid[i]? = some x → ∃ g, errIds[i]? = some g ∧ Tryd.prog.globalNamed x.1 = some g := fun i x hx => by
    have h1 : (laid.map fun x => Tryd.prog.globalNamed x.1)[i]? = some (Tryd.prog.globalNamed x.1) := by rw [List.getElem?_map, hx]; rfl
    rw [hids, List.getElem?_map] at h1
    cases hg : errIds[i]? with
    | none => rw [hg] at h1; cases h1
    | some g =>
      rw [hg] at h1
      injection h1 with h1
      exact ⟨g, rfl, h1.symm⟩
  obtain ⟨es, h1, h2, _, h4⟩ := laid_list laid ps hv hk (fun x hx g hg => by
    obtain ⟨i, hi⟩ := List.getElem?_of_mem hx
    obtain ⟨g', hg', hg''⟩ := hget i x hi
    rw [hg] at hg''
    injection hg'' with e
    subst e
    have := List.all_eq_true.1 hty g (List.mem_of_getElem? hg')
    simpa using this) hrows hnd
  refine ⟨es, ⟨by rw [h1, hlen], h2, fun i g a hi ha => ?_, fun i a ha => ?_⟩⟩
  · have hil : i < laid.length := by have := (List.getElem?_eq_some_iff.1 ha).1; omega
    obtain ⟨g1, hg1, hc, _⟩ := h4 i _ a (List.getElem?_eq_getElem hil) ha
    obtain ⟨g2, hg2, hg3⟩ := hget i _ (List.getElem?_eq_getElem hil)
    rw [hg1] at hg3
    injection hg3 with e
    subst e
    rw [hi] at hg2
    injection hg2 with e
    subst e
    exact hc
  · have hil : i < laid.length := by have := (List.getElem?_eq_some_iff.1 ha).1; omega
    obtain ⟨_, _, _, hr⟩ := h4 i _ a (List.getElem?_eq_getElem hil) ha
    exact hr

theorem ErrsAt.only {W W' : World} {es : List Addr} (h : ErrsAt W es) (ho : Only (fun _ => False) W W') : ErrsAt W' es :=
  ⟨h.len, h.nodup, fun i g a hi ha => ho.cellv (h.at_ i g a hi ha) (fun h => h), fun i a ha => by
    obtain ⟨c, t, hc⟩ := h.row i a ha
    exact ⟨c, t, (ho.block _ (Array.getElem?_eq_some_iff.1 hc).1 (fun h => h)).trans hc⟩⟩

/-- The first ones of the sixteen, as many as are listed. -/
structure ErrsIn (W : World) (k : Nat) (es : List Addr) : Prop where
  len : k ≤ es.length
  at_ : ∀ (i g : Nat) (a : Addr), errIds[i]? = some g → es[i]? = some a → W.cell? ⟨g, 0, none⟩ = some (errV a)
theorem ErrsAt.in_ {W : World} {es : List Addr} (h : ErrsAt W es) {k : Nat} (hk : k ≤ 16) : ErrsIn W k es := ⟨by rw [h.len]; exact hk, h.at_⟩
theorem ErrsIn.only {W W' : World} {k : Nat} {es : List Addr} (h : ErrsIn W k es) (ho : Only (fun _ => False) W W') : ErrsIn W' k es := ⟨h.len, fun i g a hi ha => ho.cellv (h.at_ i g a hi ha) (fun h => h)⟩
/-- A row's list of the first k. -/
theorem errs_in_of_list {W : World} (k : Nat) (laid : List (String × DataW Unit)) (h : laidMet Tryd.prog laid W) (hids : (laid.map fun x => Tryd.prog.globalNamed x.1) = (errIds.take k).map some) (hk16 : k ≤ 16)
    (hk : ∀ x ∈ laid, ∃ text, x.2 = .iface "*errors.errorString" (.ptr (.agg [.lit (.string text)])))
    (hty : (errIds.all fun g => (Tryd.prog.globals[g]?).map (·.type) == some 27) = true) : ∃ es, ErrsIn W k es := by
  obtain ⟨ps, hv, hnd, hrows⟩ := h
  have hlen : laid.length = k := by
    have := congrArg List.length hids
    rw [List.length_map, List.length_map, List.length_take] at this
    have h16 : errIds.length = 16 := rfl
    omega
  have hget : ∀ (i : Nat) (x : String × DataW Unit), laid[i]? = some x → ∃ g, errIds[i]? = some g ∧ Tryd.prog.globalNamed x.1 = some g := fun i x hx => by
    have h1 : (laid.map fun x => Tryd.prog.globalNamed x.1)[i]? = some (Tryd.prog.globalNamed x.1) := by rw [List.getElem?_map, hx]; rfl
    rw [hids, List.getElem?_map, List.getElem?_take] at h1
    split at h1
    · cases hg : errIds[i]? with
      | none => rw [hg] at h1; cases h1
      | some g =>
        rw [hg] at h1
        injection h1 with h1
        exact ⟨g, rfl, h1.symm⟩
    · cases h1
  obtain ⟨es, h1, h2, _, h4⟩ := laid_list laid ps hv hk (fun x hx g hg => by
    obtain ⟨i, hi⟩ := List.getElem?_of_mem hx
    obtain ⟨g', hg', hg''⟩ := hget i x hi
    rw [hg] at hg''
    injection hg'' with e
    subst e
    have := List.all_eq_true.1 hty g (List.mem_of_getElem? hg')
    simpa using this) hrows hnd
  refine ⟨es, by omega, fun i g a hi ha => ?_⟩
  have hil : i < laid.length := by have := (List.getElem?_eq_some_iff.1 ha).1; omega
  obtain ⟨g1, hg1, hc, _⟩ := h4 i _ a (List.getElem?_eq_getElem hil) ha
  obtain ⟨g2, hg2, hg3⟩ := hget i _ (List.getElem?_eq_getElem hil)
  rw [hg1] at hg3
  injection hg3 with e
  subst e
  rw [hi] at hg2
  injection hg2 with e
  subst e
  exact hc

/-! errors.Is -/
theorem isTypeOf (v : Value) (w : World) : (callFunc 39 #[.iface 118 v]).run Tryd.prog w = .ok (.value (.iface 90 (.agg #[typeHandle Tryd.prog 118]))) w := by kernel_rfl
theorem isComparable (w : World) : (callFunc 88 #[.agg #[typeHandle Tryd.prog 118]]).run Tryd.prog w = .ok (.value (.bool true)) w := by kernel_rfl
theorem isMethod (v : Value) (w : World) : (Go.method 255 90 v "Comparable").run Tryd.prog w = .ok (88, v) w := by kernel_rfl
theorem noIs (v : Value) (xT : TypeId) (w : World) : (Instr.typeAssert (.iface 118 v) xT 92 true).run Tryd.prog w = .ok (.tuple #[.nilIface, .bool false]) w := run_typeAssert_lacksB Tryd.underlying92 (by kernel_rfl) (by kernel_rfl) v xT w
theorem noUnwrap (v : Value) (xT : TypeId) (w : World) : (Instr.typeAssert (.iface 118 v) xT 95 true).run Tryd.prog w = .ok (.tuple #[.nilIface, .bool false]) w := run_typeAssert_lacksB Tryd.underlying95 (by kernel_rfl) (by kernel_rfl) v xT w
theorem noUnwraps (v : Value) (xT : TypeId) (w : World) : (Instr.typeAssert (.iface 118 v) xT 97 true).run Tryd.prog w = .ok (.tuple #[.nilIface, .bool false]) w := run_typeAssert_lacksB Tryd.underlying97 (by kernel_rfl) (by kernel_rfl) v xT w
theorem isComp : (Tryd.prog.info? 118).map (·.comparable) = some true := by kernel_rfl
theorem isSize : (Tryd.prog.info? 143).map (·.size) = some 1 := by kernel_rfl

theorem is_same (a : Addr) (w : World) : Calls Tryd.prog 26 #[errV a, errV a] w fun e w' => e = .returned (.bool true) ∧ w = w' := by
  unfold errV
  obtain ⟨i, hi, hcmp⟩ := Option.map_eq_some_iff.1 isComp
  obtain ⟨j, hj, hjs⟩ := Option.map_eq_some_iff.1 isSize
  have tT := isTypeOf
  have cT := isComparable
  have mR := isMethod
  have heq := run_eql_iface_ptr_same (P := Tryd.prog) w a Tryd.underlying27 Tryd.underlying118 hi hcmp hj
  go_enter Tryd.func26, Tryd.ntmps26
  go_wp2
  refine wp_loop_rounds 1 ?_
  rw [rounds_succ]
  go_wp2
  go_ret
  exact ⟨rfl, rfl⟩

theorem is_other (a b : Addr) (w : World) (hne : a ≠ b) (ha : ∃ c t, w.heap[a.block]? = some (.cells c t (0, 0))) (hb : ∃ c t, w.heap[b.block]? = some (.cells c t (0, 0))) :
    Calls Tryd.prog 26 #[errV a, errV b] w fun e w' => e = .returned (.bool false) ∧ w = w' := by
  unfold errV
  obtain ⟨ca, ta, ha⟩ := ha
  obtain ⟨cb, tb, hb⟩ := hb
  obtain ⟨i, hi, hcmp⟩ := Option.map_eq_some_iff.1 isComp
  obtain ⟨j, hj, hjs⟩ := Option.map_eq_some_iff.1 isSize
  have tT := isTypeOf
  have cT := isComparable
  have mR := isMethod
  have nE := noIs
  have uE := noUnwrap
  have vE := noUnwraps
  have heq := run_eql_iface_ptr_other (P := Tryd.prog) w Tryd.underlying27 Tryd.underlying118 hi hcmp hj (by rw [hjs]; decide) hne ha hb
  go_enter Tryd.func26, Tryd.ntmps26
  go_wp2
  refine wp_loop_rounds 1 ?_
  rw [rounds_succ]
  go_wp2
  go_ret
  exact ⟨rfl, rfl⟩

/-! truchmannum.Num -/
set_option maxHeartbeats 1000000 in
theorem errsAll_any {W : World} {es : List Addr} (h : ErrsAt W es) : Calls Tryd.prog 25 #[] W fun e w' =>
    e = .returned (.slice (some ⟨W.heap.size, 0, none⟩) 16 16) ∧ Blk w' W.heap.size 27 (es.map errV) ∧ Only (fun _ => False) W w' := by
  obtain ⟨hl, _, hat, _⟩ := h
  match es, hl with
  | [e0, e1, e2, e3, e4, e5, e6, e7, e8, e9, e10, e11, e12, e13, e14, e15], _ =>
    have c0 := hat 0 _ _ rfl rfl
    have c1 := hat 1 _ _ rfl rfl
    have c2 := hat 2 _ _ rfl rfl
    have c3 := hat 3 _ _ rfl rfl
    have c4 := hat 4 _ _ rfl rfl
    have c5 := hat 5 _ _ rfl rfl
    have c6 := hat 6 _ _ rfl rfl
    have c7 := hat 7 _ _ rfl rfl
    have c8 := hat 8 _ _ rfl rfl
    have c9 := hat 9 _ _ rfl rfl
    have c10 := hat 10 _ _ rfl rfl
    have c11 := hat 11 _ _ rfl rfl
    have c12 := hat 12 _ _ rfl rfl
    have c13 := hat 13 _ _ rfl rfl
    have c14 := hat 14 _ _ rfl rfl
    have c15 := hat 15 _ _ rfl rfl
    clear hat
    unfold errV at c0 c1 c2 c3 c4 c5 c6 c7 c8 c9 c10 c11 c12 c13 c14 c15
    go_enter Tryd.func25, Tryd.ntmps25
    go_wp2
    go_ret
    exact ⟨rfl, Blk.new W 27 _, (Only.refl _ _).alloc _⟩

theorem num_nil (W : World) : Calls Tryd.prog 9 #[.nilIface] W fun e w' => e = .returned (.int .i64 0) ∧ W = w' := by
  go_enter Tryd.func9, Tryd.ntmps9
  go_wp2
  go_ret
  exact ⟨rfl, rfl⟩
end Go.Proofs.YtgknhojjnnljkaaDoor
