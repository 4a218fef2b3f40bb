/- Several texts in one. -/
import Derived.Test.YtbnfhklpobephaaGreatDoorJSnList
import Derived.Test.YtbnfhklpobephaaGreatDoorJBase
import Derived.Test.YtbnfhklpobephaaGreatDoorJEnWire
/- Of the sixteen errors those that a row lists, whichever, and that no two of them are one: errors.Is of two of them, and of none. -/
namespace Go.Proofs.YtbnfhklpobephaaGreatDoor
open Go Go.ChangeShapes Go.WideShapes Go.ChangeAt Go.RowKit Go.Extern.Stop Go.Stop Go.Extern

/-- .. where each lies in a row of its own, and no two are one. -/
structure ErrsIs (W : World) (sel : List Nat) (es : List Addr) : Prop where
  of : ErrsOf W sel es
  other : ∀ i ∈ sel, ∀ j ∈ sel, i ≠ j → ∀ a b : Addr, es[i]? = some a → es[j]? = some b → a ≠ b
  row : ∀ i ∈ sel, ∀ a : Addr, es[i]? = some a → ∃ c t, W.heap[a.block]? = some (.cells c t (0, 0))
theorem ErrsIs.only {W W' : World} {sel : List Nat} {es : List Addr} (h : ErrsIs W sel es) (ho : Only (fun _ => False) W W') : ErrsIs W' sel es :=
  ⟨h.of.only ho, h.other, fun i hi a ha => by
    obtain ⟨c, t, hc⟩ := h.row i hi a ha
    exact ⟨c, t, (ho.block _ (Array.getElem?_eq_some_iff.1 hc).1 (fun h => h)).trans hc⟩⟩
theorem ErrsIs.le {W : World} {sel sel' : List Nat} {es : List Addr} (h : ErrsIs W sel es) (hs : ∀ i ∈ sel', i ∈ sel) : ErrsIs W sel' es :=
  ⟨h.of.le hs, fun i hi j hj => h.other i (hs i hi) j (hs j hj), fun i hi => h.row i (hs i hi)⟩
set_option maxRecDepth 100000
/-! errors.Is -/
theorem isTypeOf (v : Value) (w : World) : (callFunc 86 #[.iface 409 v]).run Tryz.prog w = .ok (.value (.iface 272 (.agg #[typeHandle Tryz.prog 409]))) w := by kernel_rfl
theorem isComparable (w : World) : (callFunc 267 #[.agg #[typeHandle Tryz.prog 409]]).run Tryz.prog w = .ok (.value (.bool true)) w := by kernel_rfl
theorem isMethod (v : Value) (w : World) : (Go.method 546 272 v "Comparable").run Tryz.prog w = .ok (267, v) w := by kernel_rfl
theorem noIs (v : Value) (xT : TypeId) (w : World) : (Instr.typeAssert (.iface 409 v) xT 274 true).run Tryz.prog w = .ok (.tuple #[.nilIface, .bool false]) w := run_typeAssert_lacksB Tryz.underlying274 (by kernel_rfl) (by kernel_rfl) v xT w
theorem noUnwrap (v : Value) (xT : TypeId) (w : World) : (Instr.typeAssert (.iface 409 v) xT 277 true).run Tryz.prog w = .ok (.tuple #[.nilIface, .bool false]) w := run_typeAssert_lacksB Tryz.underlying277 (by kernel_rfl) (by kernel_rfl) v xT w
theorem noUnwraps (v : Value) (xT : TypeId) (w : World) : (Instr.typeAssert (.iface 409 v) xT 279 true).run Tryz.prog w = .ok (.tuple #[.nilIface, .bool false]) w := run_typeAssert_lacksB Tryz.underlying279 (by kernel_rfl) (by kernel_rfl) v xT w
theorem isComp : (Tryz.prog.info? 409).map (·.comparable) = some true := by kernel_rfl
theorem isSize : (Tryz.prog.info? 434).map (·.size) = some 1 := by kernel_rfl

theorem is_same (a : Addr) (w : World) : Calls Tryz.prog 39 #[errV a, errV a] w fun e w' => e = .returned (.bool true) ∧ w = w' := by
  unfold errV
  obtain ⟨i, hi, hcmp⟩ := Option.map_eq_some_iff.1 isComp
  obtain ⟨j, hj, hjs⟩ := Option.map_eq_some_iff.1 isSize
  have tT := isTypeOf
  have cT := isComparable
  have mR := isMethod
  have heq := run_eql_iface_ptr_same (P := Tryz.prog) w a Tryz.underlying38 Tryz.underlying409 hi hcmp hj
  go_enter Tryz.func39, Tryz.ntmps39
  go_wp2
  refine wp_loop_rounds 1 ?_
  rw [rounds_succ]
  go_wp2
  go_ret
  exact ⟨rfl, rfl⟩

theorem is_other (a b : Addr) (w : World) (hne : a ≠ b) (ha : ∃ c t, w.heap[a.block]? = some (.cells c t (0, 0))) (hb : ∃ c t, w.heap[b.block]? = some (.cells c t (0, 0))) :
    Calls Tryz.prog 39 #[errV a, errV b] w fun e w' => e = .returned (.bool false) ∧ w = w' := by
  unfold errV
  obtain ⟨ca, ta, ha⟩ := ha
  obtain ⟨cb, tb, hb⟩ := hb
  obtain ⟨i, hi, hcmp⟩ := Option.map_eq_some_iff.1 isComp
  obtain ⟨j, hj, hjs⟩ := Option.map_eq_some_iff.1 isSize
  have tT := isTypeOf
  have cT := isComparable
  have mR := isMethod
  have nE := noIs
  have uE := noUnwrap
  have vE := noUnwraps
  have heq := run_eql_iface_ptr_other (P := Tryz.prog) w Tryz.underlying38 Tryz.underlying409 hi hcmp hj (by rw [hjs]; decide) hne ha hb
  go_enter Tryz.func39, Tryz.ntmps39
  go_wp2
  refine wp_loop_rounds 1 ?_
  rw [rounds_succ]
  go_wp2
  go_ret
  exact ⟨rfl, rfl⟩

theorem is_nil (b : Addr) (w : World) : Calls Tryz.prog 39 #[.nilIface, errV b] w fun e w' => e = .returned (.bool false) ∧ w = w' := by
  unfold errV
  have heq := run_eql_iface_nil_left (P := Tryz.prog) (w := w) 409 (.pointer (some b)) Tryz.underlying38
  go_enter Tryz.func39, Tryz.ntmps39
  go_wp2
  go_ret
  exact ⟨rfl, rfl⟩

/-- A row's list of some of them. -/
theorem errs_is_of_sel {W : World} (sel : List Nat) (laid : List (String × DataW Unit)) (h : laidMet Tryz.prog laid W) (hids : (laid.map fun x => Tryz.prog.globalNamed x.1) = sel.map fun i => errIds[i]?) (_ : sel.Nodup)
    (hk : ∀ x ∈ laid, ∃ text, x.2 = .iface "*errors.errorString" (.ptr (.agg [.lit (.string text)])))
    (hty : (sel.all fun i => (errIds[i]?).any fun g => (Tryz.prog.globals[g]?).map (·.type) == some 38) = true) (hsel : ∀ i ∈ sel, i < 16) : ∃ es, ErrsIs W sel es := by
  obtain ⟨ps, hv, hnd', hrows⟩ := h
  have hlen : laid.length = sel.length := by
    have := congrArg List.length hids
    simpa using this
  have h16 : errIds.length = 16 := rfl
  have hget : ∀ (j : Nat) (x : String × DataW Unit), laid[j]? = some x → ∃ i g, sel[j]? = some i ∧ errIds[i]? = some g ∧ Tryz.prog.globalNamed x.1 = some g := fun j x hx => by
    have h1 : (laid.map fun x => Tryz.prog.globalNamed x.1)[j]? = some (Tryz.prog.globalNamed x.1) := by rw [List.getElem?_map, hx]; rfl
    have hj : j < sel.length := by have := (List.getElem?_eq_some_iff.1 hx).1; omega
    rw [hids, List.getElem?_map, List.getElem?_eq_getElem hj] at h1
    simp only [Option.map_some, Option.some.injEq] at h1
    have hlt := hsel _ (List.getElem_mem hj)
    refine ⟨_, errIds[sel[j]]'(by omega), List.getElem?_eq_getElem hj, List.getElem?_eq_getElem (by omega), ?_⟩
    rw [← h1]
    exact List.getElem?_eq_getElem (by omega)
  obtain ⟨es, h1, h2, _, h4⟩ := laid_list laid ps hv hk (fun x hx g hg => by
    obtain ⟨j, hj⟩ := List.getElem?_of_mem hx
    obtain ⟨i, g', hi', hg', hg''⟩ := hget j x hj
    rw [hg] at hg''
    injection hg'' with e
    subst e
    have := List.all_eq_true.1 hty i (List.mem_of_getElem? hi')
    rw [hg'] at this
    simpa using this) hrows hnd'
  have key : ∀ i ∈ sel, ∀ a : Addr, ((List.range 16).map fun i => es.getD (sel.idxOf i) ⟨0, 0, none⟩)[i]? = some a → ∃ j, sel[j]? = some i ∧ j < laid.length ∧ es[j]? = some a := fun i hi a ha => by
    have hj : sel.idxOf i < sel.length := List.idxOf_lt_length_of_mem hi
    have hji : sel[sel.idxOf i]? = some i := by rw [List.getElem?_eq_getElem hj, List.getElem_idxOf hj]
    rw [List.getElem?_map, List.getElem?_range (hsel i hi)] at ha
    simp only [Option.map_some, Option.some.injEq] at ha
    refine ⟨_, hji, by omega, ?_⟩
    rw [List.getD_eq_getElem?_getD, List.getElem?_eq_getElem (by omega)] at ha
    rw [List.getElem?_eq_getElem (by omega)]
    simpa using ha
  refine ⟨(List.range 16).map fun i => es.getD (sel.idxOf i) ⟨0, 0, none⟩, ⟨by simp, fun i hi g a hg ha => ?_⟩, fun i hi i' hi' hne a b ha hb e => ?_, fun i hi a ha => ?_⟩
  · obtain ⟨j, hji, hjl, hje⟩ := key i hi a ha
    obtain ⟨g1, hg1, hc, _⟩ := h4 j _ a (List.getElem?_eq_getElem hjl) hje
    obtain ⟨i2, g2, hi2, hg2, hg3⟩ := hget j _ (List.getElem?_eq_getElem hjl)
    rw [hji] at hi2
    injection hi2 with e
    subst e
    rw [hg1] at hg3
    injection hg3 with e
    subst e
    rw [hg] at hg2
    injection hg2 with e
    subst e
    exact hc
  · subst e
    obtain ⟨j, hji, _, hje⟩ := key i hi a ha
    obtain ⟨j', hji', _, hje'⟩ := key i' hi' a hb
    rw [← hje'] at hje
    obtain rfl := (List.getElem?_inj (List.getElem?_eq_some_iff.1 (hje.trans hje')).1 h2).1 hje
    rw [hji] at hji'
    injection hji' with e
    exact hne e
  · obtain ⟨j, _, hjl, hje⟩ := key i hi a ha
    obtain ⟨_, _, _, hr⟩ := h4 j _ a (List.getElem?_eq_getElem hjl) hje
    exact hr
end Go.Proofs.YtbnfhklpobephaaGreatDoor
/- A scope with several labels, to which the run jumps forth and back: what holds at each of them, and a measure that every jump lowers. -/
namespace Go.Proofs.YtbnfhklpobephaaGreatDoor
open Go Go.RowKit

/-- As Q; by a goto to label l: J l. -/
def Exit.net (J : Nat → Act → World → Prop) (Q : Exit → Act → World → Prop) : Exit → Act → World → Prop
  | .goto l, a, w => J l a w
  | e, a, w => Q e a w
theorem net_ret {J : Nat → Act → World → Prop} {Q : Exit → Act → World → Prop} {a : Act} {w : World} (h : Q .ret a w) : Exit.net J Q .ret a w := h
theorem wp_scope_net {P : Program} {a : Act} {w : World} {Q : Exit → Act → World → Prop} {c R : Code} (l0 : Nat) (J : Nat → Act → World → Prop) (μ : Nat → Act → World → Nat) (hf : findLabel c l0 = some (Code.skip.seq R))
    (first : (∀ a w, J l0 a w → R.wp P (Exit.net J Q) a w) → c.wp P (Exit.net J Q) a w)
    (pass : ∀ l a w, J l a w → ∃ R', findLabel c l = some (Code.skip.seq R') ∧ R'.wp P (Exit.net (fun l' a' w' => J l' a' w' ∧ μ l' a' w' < μ l a w) Q) a w) : (Code.scope c).wp P Q a w := by
  intro b k cs
  have key : ∀ n l a w, μ l a w = n → J l a w → ∃ R', findLabel c l = some (Code.skip.seq R') ∧ ∃ e a' w', Q e a' w' ∧ Arrives P (lone (b.at a (.code (Code.skip.seq R') :: .inScope c :: k)) cs w) b k cs e a' w' := by
    intro n
    induction n using Nat.strongRecOn with
    | _ n ih =>
      intro l a w hn hJ
      obtain ⟨R', hl, hw⟩ := pass l a w hJ
      refine ⟨R', hl, ?_⟩
      obtain ⟨e, a₁, w₁, hq, harr⟩ := wp_seq (wp_skip hw) b (.inScope c :: k) cs
      cases e with
      | normal => exact ⟨.normal, a₁, w₁, hq, Steps.trans harr (.one step_inScope)⟩
      | exit id => exact ⟨.exit id, a₁, w₁, hq, fun k' hk => harr k' (by simp [exitTo, hk])⟩
      | goto l' =>
        obtain ⟨hJ', hlt⟩ := hq
        obtain ⟨R₂, hl₂, e₂, a₂, w₂, hq₂, harr₂⟩ := ih _ (by omega) l' a₁ w₁ rfl hJ'
        have hg : gotoIn l' (.inScope c :: k) = some (.code (Code.skip.seq R₂) :: .inScope c :: k) := by simp [gotoIn, hl₂]
        exact ⟨e₂, a₂, w₂, hq₂, .of_steps (harr _ hg) harr₂⟩
      | ret => exact ⟨_, a₁, w₁, hq, harr⟩
      | panic ch => exact ⟨_, a₁, w₁, hq, harr⟩
      | outgrown => exact ⟨_, a₁, w₁, hq, harr⟩
  have hfirst := first fun a w hJ => by
    obtain ⟨R', hl, hw⟩ := pass l0 a w hJ
    rw [hf] at hl
    injection hl with hl
    injection hl with _ hl
    subst hl
    exact Code.wp_mono (fun e a' w' h => by cases e <;> first | exact h.1 | exact h) hw
  obtain ⟨e, a₁, w₁, hq, harr⟩ := hfirst b (.inScope c :: k) cs
  cases e with
  | normal => exact ⟨.normal, a₁, w₁, hq, .head step_scope (Steps.trans harr (.one step_inScope))⟩
  | exit id => exact ⟨.exit id, a₁, w₁, hq, fun k' hk => .head step_scope (harr k' (by simp [exitTo, hk]))⟩
  | goto l' =>
    obtain ⟨R₂, hl₂, e₂, a₂, w₂, hq₂, harr₂⟩ := key _ l' a₁ w₁ rfl hq
    have hg : gotoIn l' (.inScope c :: k) = some (.code (Code.skip.seq R₂) :: .inScope c :: k) := by simp [gotoIn, hl₂]
    exact ⟨e₂, a₂, w₂, hq₂, .of_steps (.head step_scope (harr _ hg)) harr₂⟩
  | ret => exact ⟨_, a₁, w₁, hq, .of_steps (.one step_scope) harr⟩
  | panic ch => exact ⟨_, a₁, w₁, hq, .of_steps (.one step_scope) harr⟩
  | outgrown => exact ⟨_, a₁, w₁, hq, .of_steps (.one step_scope) harr⟩
end Go.Proofs.YtbnfhklpobephaaGreatDoor
/- Package gram: the item that bytes begin with. -/
namespace Go.Proofs.YtbnfhklpobephaaGreatDoor
open Go Go.RowKit
set_option maxRecDepth 100000
set_option maxHeartbeats 4000000

/-- What first answers. -/
def FirstSays (es : List Addr) (r : Cut) (e : Ending) : Prop :=
  match r with
  | .few => ∃ a, es[2]? = some a ∧ e = .returned (.tuple #[.int .i64 0, .int .i64 0, errV a])
  | .bad => ∃ a, es[4]? = some a ∧ e = .returned (.tuple #[.int .i64 0, .int .i64 0, errV a])
  | .got x n => e = .returned (.tuple #[.int .i64 x.kind, .int .i64 (n : Int), .nilIface])
theorem errShort_at {w : World} {es : List Addr} (h : ErrsOf w [2, 4] es) : ∃ a, es[2]? = some a ∧ w.cell? ⟨2, 0, none⟩ = some (errV a) := h.get 2 _ (by decide) rfl
theorem errForm_at {w : World} {es : List Addr} (h : ErrsOf w [2, 4] es) : ∃ a, es[4]? = some a ∧ w.cell? ⟨4, 0, none⟩ = some (errV a) := h.get 4 _ (by decide) rfl

/-- Where firstSub stands at a label. -/
def SubJ (w : World) (A : Option Addr) (n c : Nat) (o : Int) (xs : List UInt8) (R : Cut) (l : Nat) (a : Act) (W : World) : Prop :=
  ∃ (L : Nat) (u5 u6 u7 u8 u9 u10 u11 u12 u13 u14 u15 u16 u17 u18 u19 u20 u21 u22 u23 u24 u25 u26 u27 u28 u29 u30 u31 u32 u33 u34 : Value),
    a = { tmps := #[.slice A n c, undef, .int .i64 0, .int .i64 (L : Int), .nilIface, u5, u6, u7, u8, u9, u10, u11, u12, u13, u14, u15, u16, u17, u18, u19, u20, u21, u22, u23, u24, u25, u26, u27, u28, u29, u30, u31, u32, u33, u34], defers := [] } ∧ W = w ∧ 3 ≤ L ∧ L ≤ n ∧
    match l with
    | 0 => R = .few
    | 1 => ∃ f, subCut o f L (xs.drop L) = R
    | 2 => ∃ (f : List UInt8) (x : UInt8), 4 ≤ L ∧ x.toNat = 255 ∧ subCut o f (L - 1) (x :: xs.drop L) = R
    | _ => False
def subM (n : Nat) (l : Nat) (a : Act) (_ : World) : Nat := if l = 0 then 0 else n + 1 - (intOf (a.tmps.getD 3 undef)).toNat

theorem firstSub_any {w : World} {es : List Addr} (hes : ErrsOf w [2, 4] es) {A : Option Addr} {n c : Nat} {xs : List UInt8} (hs : Src w A n xs) (h3 : 3 ≤ n) (o : Int) (hn : n ≤ 1048576) :
    Calls Tryz.prog 171 #[.slice A n c] w fun e w' => (∀ R, subCut o [] 3 (xs.drop 3) = R → FirstSays es R e) ∧ Only (fun _ => False) w w' := by
  obtain ⟨R, hR⟩ : ∃ R, subCut o [] 3 (xs.drop 3) = R := ⟨_, rfl⟩
  have HR := Lib.hid hR
  suffices H : Calls Tryz.prog 171 #[.slice A n c] w fun e w' => FirstSays es R e ∧ Only (fun _ => False) w w' from
    H.mono fun e w' h => ⟨fun R' h' => by rw [← h', HR.out]; exact h.1, h.2⟩
  obtain ⟨aS, hS1, hS2⟩ := errShort_at hes
  obtain ⟨aF, hF1, hF2⟩ := errForm_at hes
  unfold errV at hS2 hF2
  have HS1 := Lib.hid hS1
  have HF1 := Lib.hid hF1
  have HS := Lib.hid hs
  clear hR hes hS1 hF1 hs
  go_enter Tryz.func171, Tryz.ntmps171
  go_wp2_with fail
  refine wp_scope_net 1 (SubJ w A n c o xs R) (subM n) rfl ?_ ?_
  · intro hfirst
    go_wp2_with fail
    go_step3
    rename_i _ K hK
    exact hK _ _ (hfirst _ _ ⟨3, _, _, _, _, _, _, _, _, _, _, _, _, _, _, _, _, _, _, _, _, _, _, _, _, _, _, _, _, _, _, rfl, rfl, Nat.le_refl _, h3, [], HR.out⟩)
  · rintro l a W ⟨L, u5, u6, u7, u8, u9, u10, u11, u12, u13, u14, u15, u16, u17, u18, u19, u20, u21, u22, u23, u24, u25, u26, u27, u28, u29, u30, u31, u32, u33, u34, rfl, rfl, h3L, hLn, hm⟩
    match l, hm with
    | 0, hm =>
      refine ⟨_, rfl, ?_⟩
      have HE : Hid (R = .few) := hm
      clear hm
      go_wp2_with fail
      go_quiet (fail)
      go_wp2
      refine net_ret ?_
      go_ret3
      rw [HE.out]
      exact ⟨⟨_, HS1.out, rfl⟩, (Only.refl _ _).drewN _⟩
    | 1, hm =>
      obtain ⟨f, hf⟩ := hm
      have HF := Lib.hid hf
      clear hf hm
      refine ⟨_, rfl, ?_⟩
      by_cases hlt : L < n
      · obtain ⟨x, hx⟩ : ∃ x, xs[L]? = some x := ⟨_, List.getElem?_eq_getElem (by rw [HS.out.1]; exact hlt)⟩
        obtain ⟨ad, rfl, hcell⟩ := HS.out.2 (by omega)
        have c0 := hcell L x hx
        unfold B8 at c0
        have hdr : xs.drop L = x :: xs.drop (L + 1) := by rw [List.drop_eq_getElem_cons (by rw [HS.out.1]; exact hlt), (List.getElem?_eq_some_iff.1 hx).2]
        rw [hdr] at HF
        obtain ⟨z, hz⟩ : ∃ z : Int, z = (x.toNat : Int) := ⟨_, rfl⟩
        rw [← hz] at c0
        have HZ := Lib.hid hz
        clear hcell hx hdr hz
        by_cases h5 : x.toNat = 255
        · have d1 : (z == 255) = true := by rw [HZ.out]; simp; omega
          have d2 : decide (z = 255) = true := by rw [HZ.out]; simp; omega
          have H5 := Lib.hid h5
          clear h5
          go_wp2_with fail
          go_step3
          refine ⟨⟨L + 1, _, _, _, _, _, _, _, _, _, _, _, _, _, _, _, _, _, _, _, _, _, _, _, _, _, _, _, _, _, _, rfl, rfl, by omega, by omega, f, x, by omega, H5.out, ?_⟩, ?_⟩
          · rw [Nat.add_sub_cancel]
            exact HF.out
          · simp [subM, intOf]
            omega
        · have d1 : (z == 255) = false := by rw [HZ.out]; simp; omega
          have d2 : decide (z = 255) = false := by rw [HZ.out]; simp; omega
          have H5 := Lib.hid h5
          clear h5
          go_wp2_with fail
          go_step3
          refine ⟨⟨L + 1, _, _, _, _, _, _, _, _, _, _, _, _, _, _, _, _, _, _, _, _, _, _, _, _, _, _, _, _, _, _, rfl, rfl, by omega, by omega, f ++ [x], ?_⟩, ?_⟩
          · have := HF.out
            rw [subCut_plain _ _ _ _ H5.out] at this
            exact this
          · simp [subM, intOf]
            omega
      · go_wp2_with fail
        go_step3
        refine ⟨⟨L, _, _, _, _, _, _, _, _, _, _, _, _, _, _, _, _, _, _, _, _, _, _, _, _, _, _, _, _, _, _, rfl, rfl, h3L, hLn, ?_⟩, ?_⟩
        · have := HF.out
          rw [List.drop_eq_nil_of_le (by rw [HS.out.1]; omega), subCut] at this
          exact this.symm
        · simp [subM, intOf]
          omega
    | 2, hm =>
      obtain ⟨f, x, h4, h5, hf⟩ := hm
      have HF := Lib.hid hf
      have H5 := Lib.hid h5
      clear hf hm h5
      refine ⟨_, rfl, ?_⟩
      by_cases hlt : L < n
      · obtain ⟨y, hy⟩ : ∃ y, xs[L]? = some y := ⟨_, List.getElem?_eq_getElem (by rw [HS.out.1]; exact hlt)⟩
        obtain ⟨ad, rfl, hcell⟩ := HS.out.2 (by omega)
        have c0 := hcell L y hy
        unfold B8 at c0
        have hdr : xs.drop L = y :: xs.drop (L + 1) := by rw [List.drop_eq_getElem_cons (by rw [HS.out.1]; exact hlt), (List.getElem?_eq_some_iff.1 hy).2]
        rw [hdr] at HF
        obtain ⟨z, hz⟩ : ∃ z : Int, z = (y.toNat : Int) := ⟨_, rfl⟩
        rw [← hz] at c0
        have dL : ((L : Int) == (n : Int)) = false := beq_eq_false_iff_ne.2 (by omega)
        have dL2 : decide ((L : Int) = (n : Int)) = false := decide_eq_false (by omega)
        have HZ := Lib.hid hz
        clear hcell hy hdr hz
        by_cases hy5 : y.toNat = 255
        · have d1 : (z == 255) = true := by rw [HZ.out]; simp; omega
          have d2 : decide (z = 255) = true := by rw [HZ.out]; simp; omega
          have HY := Lib.hid hy5
          clear hy5
          go_wp2_with fail
          go_step3
          refine ⟨⟨L + 1, _, _, _, _, _, _, _, _, _, _, _, _, _, _, _, _, _, _, _, _, _, _, _, _, _, _, _, _, _, _, rfl, rfl, by omega, by omega, f ++ [y], ?_⟩, ?_⟩
          · have := HF.out
            rw [subCut_two _ _ _ _ _ H5.out HY.out, show L - 1 + 2 = L + 1 by omega] at this
            exact this
          · simp [subM, intOf]
            omega
        · have d1 : (z == 255) = false := by rw [HZ.out]; simp; omega
          have d2 : decide (z = 255) = false := by rw [HZ.out]; simp; omega
          by_cases hy4 : y.toNat = 240
          · have d3 : (z == 240) = true := by rw [HZ.out]; simp; omega
            have d4 : decide (z = 240) = true := by rw [HZ.out]; simp; omega
            have eR : R = .got ⟨5, 0, o, f⟩ (L + 1) := by
              have := HF.out
              rw [subCut_end _ _ _ _ _ H5.out hy4] at this
              rw [← this]
              congr 1
              omega
            have HE := Lib.hid eR
            clear eR hy4 hy5
            go_wp2
            refine net_ret ?_
            go_ret3
            rw [HE.out]
            exact ⟨rfl, Only.refl _ _⟩
          · have d3 : (z == 240) = false := by rw [HZ.out]; simp; omega
            have d4 : decide (z = 240) = false := by rw [HZ.out]; simp; omega
            have eR : R = .bad := by
              have := HF.out
              rw [subCut_bad _ _ _ _ _ H5.out hy4 hy5] at this
              exact this.symm
            have HE := Lib.hid eR
            clear eR hy4 hy5
            go_wp2_with fail
            go_quiet (fail)
            go_wp2
            refine net_ret ?_
            go_ret3
            rw [HE.out]
            exact ⟨⟨_, HF1.out, rfl⟩, (Only.refl _ _).drewN _⟩
      · have dL : ((L : Int) == (n : Int)) = true := beq_iff_eq.2 (by omega)
        have dL2 : decide ((L : Int) = (n : Int)) = true := decide_eq_true (by omega)
        have HLn : Hid (L = n) := (by omega : L = n)
        go_wp2_with fail
        go_step3
        refine ⟨⟨L, _, _, _, _, _, _, _, _, _, _, _, _, _, _, _, _, _, _, _, _, _, _, _, _, _, _, _, _, _, _, rfl, rfl, h3L, hLn, ?_⟩, ?_⟩
        · have := HF.out
          rw [List.drop_eq_nil_of_le (by rw [HS.out.1]; have := HLn.out; omega), subCut_one _ _ _ _ H5.out] at this
          exact this.symm
        · simp [subM, intOf]
          omega

/-- .. where there is no option. -/
theorem firstSub_two {w : World} {es : List Addr} (hes : ErrsOf w [2, 4] es) {A : Option Addr} {n c : Nat} (h2 : n = 2) :
    Calls Tryz.prog 171 #[.slice A n c] w fun e w' => FirstSays es .few e ∧ Only (fun _ => False) w w' := by
  obtain ⟨aS, hS1, hS2⟩ := errShort_at hes
  unfold errV at hS2
  have HS1 := Lib.hid hS1
  subst h2
  clear hes hS1
  go_enter Tryz.func171, Tryz.ntmps171
  go_wp2_with fail
  refine wp_scope_hops 1 (fun C hC => ?_)
  go_wp2_with fail
  go_step3
  rename_i _ K hK
  refine hK _ _ ?_
  go_wp2_with fail
  go_step3
  refine hop_goto 0 0 hC rfl ?_
  go_wp2_with fail
  go_quiet (fail)
  go_wp2
  refine hop_ret 0 ?_
  go_ret3
  exact ⟨⟨_, HS1.out, rfl⟩, (Only.refl _ _).drewN _⟩
end Go.Proofs.YtbnfhklpobephaaGreatDoor
