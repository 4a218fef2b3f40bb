
/- What the walks of a seat share beside memory: a byte's row of the types' table, a struct's store and load as steps of the walk, a struct handed back out of a variable, a scope whose jumps lead on. -/
import Derived.Test.YtgknhojjnnljkaaDoorCells
import Derived.WalkMore
import Derived.ScopeJumps
import Derived.Deep.MidRow
import Derived.Laws.ResultCell
import Derived.Deep.AppendSrc
import Derived.Deep.DeepCutAuto
import Derived.Deep.Slices
import Derived.Deep.Upon
namespace Go.Proofs.YtgknhojjnnljkaaDoor
open Go Go.RowKit
set_option maxRecDepth 100000

theorem info_byte : (Tryd.prog.info? 5).map (fun i => (i.zero, i.size, i.bytes)) = some (some (.int .u8 0), 1, 1) := by kernel_rfl
theorem size_byte : (Tryd.prog.info? 5).map (·.size) = some 1 := by
  obtain ⟨i, hi, _, h1, _⟩ := info_parts info_byte
  rw [hi]
  simp [h1]

section
variable {P : Program} {ops : Array Oper} {rest : List Oper} {o : Oper} {a : Act} {w : World} {Q : Exit → Act → World → Prop}
/-- *p = v, a struct of so many cells, into a block known whole. -/
theorem step_store (hgd : o.guard = none) (ty : TypeId) (x y : Operand) (ho : o.op = .store ty x y) (g : Nat) (hx : a.eval x = .pointer (some ⟨g, 0, none⟩)) (cells : List Value) (hy : a.eval y = .agg cells.toArray)
    (t : TypeId) (old : List Value) (hg : Blk w g t old) (hi : (P.info? ty).map (·.size) = some cells.length) (hold : old.length = cells.length) (h1 : ∀ v ∈ cells, v.oneCell' = true)
    (h : ∀ w', Hid (Blk w' g t cells) → Hid (w'.heap.size = w.heap.size) → Only (· = g) w w' → wpList P ops Q rest (a.put o.dst undef) w') : wpList P ops Q (o :: rest) a w := by
  refine wpList_store_row hgd ty x y ho g cells.toArray hx hy t old.toArray hg (by simpa using hi) (by simpa using hold) (all_oneCell_toArray h1) ?_
  refine h _ (show Blk _ _ _ _ by
    unfold Blk
    exact setRow_heap w g old.toArray cells.toArray t (0, 0) hg) (show _ = _ by simp [World.setRow]) ((Only.refl (· = g) w).setRow (.inl rfl) _)
/-- A struct's value, as its type's zero and so many fields make it. -/
theorem step_build (hgd : o.guard = none) (t : TypeId) (parts : Array (Nat × Operand)) (ho : o.op = .build t parts) (cells : List Value) (hc : P.built t (parts.map fun (i, x) => (i, a.eval x)).toList = some cells.toArray)
    (h : wpList P ops Q rest (a.put o.dst (.agg cells.toArray)) w) : wpList P ops Q (o :: rest) a w := by
  refine wpList_build hgd t parts ho (by rw [hc]; rfl) ?_
  rw [hc]
  exact h
end

theorem Blk.new' {n : Nat} (w : World) (t : TypeId) (cs : List Value) (h : w.heap.size = n) : Blk (w.alloc (.cells cs.toArray t)) n t cs := by
  subst h
  exact Blk.new w t cs
theorem range_of {w : World} {g : Nat} {t : TypeId} {cs : List Value} (h : Blk w g t cs) : w.rangeAt g 0 cs := fun j v hv => by rw [Nat.zero_add, h.cell]; exact hv
theorem setCell_size (w : World) (p : Addr) (u : Value) : (w.setCell p u).heap.size = w.heap.size := by simp [World.setCell]

/-- A struct handed back out of a variable, beside a plain result. -/
theorem ret_cell2 {P : Program} {fn : Func} {R : Ending → World → Prop} {a : Act} {w : World} {p u : Tmp} {ty : TypeId} (h : fn.results = #[.cell p ty, .tmp u]) (g : Nat) (hp : a.tmps.getD p undef = .pointer (some ⟨g, 0, none⟩))
    (t : TypeId) (cs : List Value) (d : TypeDesc) (hb : Blk w g t cs) (hu : P.underlying ty = some d) (hd : d.isRow = true) (hi : (P.info? ty).map (·.size) = some cs.length) (hdf : a.defers = [])
    (hR : R (.returned (.tuple #[.agg cs.toArray, a.tmps.getD u undef])) w) : bodyPost P fn R .ret a w := by
  refine bodyPost_ret (v := .tuple #[.agg cs.toArray, a.tmps.getD u undef]) ?_ hdf hR
  rw [results_cell_tmp h, hp]
  have := run_loadVar_mid (P := P) w g 0 ty cs d (fun j v hv => by rw [Nat.zero_add, hb.cell]; exact hv) hu hd hi
  simp [asAddr, Result.andThen, this]
theorem ret_cell1 {P : Program} {fn : Func} {R : Ending → World → Prop} {a : Act} {w : World} {p : Tmp} {ty : TypeId} (h : fn.results = #[.cell p ty]) (g : Nat) (hp : a.tmps.getD p undef = .pointer (some ⟨g, 0, none⟩))
    (t : TypeId) (cs : List Value) (d : TypeDesc) (hb : Blk w g t cs) (hu : P.underlying ty = some d) (hd : d.isRow = true) (hi : (P.info? ty).map (·.size) = some cs.length) (hdf : a.defers = [])
    (hR : R (.returned (.agg cs.toArray)) w) : bodyPost P fn R .ret a w := by
  refine bodyPost_ret (v := .agg cs.toArray) ?_ hdf hR
  exact results_cell_row h a.tmps w g t cs.toArray (0, 0) d hp hb hu (by cases d <;> simp_all [TypeDesc.isRow]) (by simpa using hi)

/-- As Q; a jump leads on into the scope's own text, so many times at most. -/
def Exit.hop (P : Program) (c : Code) : Nat → (Exit → Act → World → Prop) → Exit → Act → World → Prop
  | 0, Q => fun e a w => match e with
    | .goto _ => False
    | e => Q e a w
  | n + 1, Q => fun e a w => match e with
    | .goto l => ∃ rest, findLabel c l = some rest ∧ rest.wp P (Exit.hop P c n Q) a w
    | e => Q e a w
theorem hop_ret {P : Program} {c : Code} {Q : Exit → Act → World → Prop} {a : Act} {w : World} (n : Nat) (h : Q .ret a w) : Exit.hop P c n Q .ret a w := by cases n <;> exact h
theorem hop_goto {P : Program} {C c : Code} {Q : Exit → Act → World → Prop} {a : Act} {w : World} (n l : Nat) (hC : Hid (C = c)) {rest : Code} (hf : findLabel c l = some rest) (h : rest.wp P (Exit.hop P C n Q) a w) : Exit.hop P C (n + 1) Q (.goto l) a w := by
  have := hC.out
  subst this
  exact ⟨rest, hf, h⟩
theorem wp_scope_hops {P : Program} {a : Act} {w : World} {Q : Exit → Act → World → Prop} {c : Code} (n : Nat) (h : ∀ C, Hid (C = c) → c.wp P (Exit.hop P C n Q) a w) : (Code.scope c).wp P Q a w := by
  have h := h c (Lib.hid rfl)
  have key : ∀ (n : Nat) (code : Code) (a : Act) (w : World), code.wp P (Exit.hop P c n Q) a w → ∀ b k cs, ∃ e a' w', Q e a' w' ∧ Arrives P (lone (b.at a (.code code :: .inScope c :: k)) cs w) b k cs e a' w' := by
    intro n
    induction n with
    | zero =>
      intro code a w h b k cs
      obtain ⟨e, a₁, w₁, hq, harr⟩ := h b (.inScope c :: k) cs
      cases e with
      | normal => exact ⟨.normal, a₁, w₁, hq, Steps.trans harr (.one step_inScope)⟩
      | exit id => exact ⟨.exit id, a₁, w₁, hq, fun k' hk => harr k' (by simp [exitTo, hk])⟩
      | goto l => exact hq.elim
      | ret => exact ⟨_, a₁, w₁, hq, harr⟩
      | panic ch => exact ⟨_, a₁, w₁, hq, harr⟩
      | outgrown => exact ⟨_, a₁, w₁, hq, harr⟩
    | succ n ih =>
      intro code a w h b k cs
      obtain ⟨e, a₁, w₁, hq, harr⟩ := h b (.inScope c :: k) cs
      cases e with
      | normal => exact ⟨.normal, a₁, w₁, hq, Steps.trans harr (.one step_inScope)⟩
      | exit id => exact ⟨.exit id, a₁, w₁, hq, fun k' hk => harr k' (by simp [exitTo, hk])⟩
      | goto l =>
        obtain ⟨rest, hf, hr⟩ := hq
        obtain ⟨e₂, a₂, w₂, hq₂, harr₂⟩ := ih rest a₁ w₁ hr b k cs
        have hg : gotoIn l (.inScope c :: k) = some (.code rest :: .inScope c :: k) := by simp [gotoIn, hf]
        exact ⟨e₂, a₂, w₂, hq₂, .of_steps (harr _ hg) harr₂⟩
      | ret => exact ⟨_, a₁, w₁, hq, harr⟩
      | panic ch => exact ⟨_, a₁, w₁, hq, harr⟩
      | outgrown => exact ⟨_, a₁, w₁, hq, harr⟩
  intro b k cs
  obtain ⟨e, a₁, w₁, hq, harr⟩ := key n c a w h b k cs
  exact ⟨e, a₁, w₁, hq, .of_steps (.one step_scope) harr⟩

/-- A scope that jumps back to one label: what holds at the label whenever the run comes to it, also the first time. -/
theorem wp_scope_back {P : Program} {a : Act} {w : World} {Q : Exit → Act → World → Prop} {c R : Code} (l : Nat) (J : Act → World → Prop) (μ : Act → World → Nat) (hf : findLabel c l = some (Code.skip.seq R))
    (first : (∀ a w, J a w → R.wp P (Exit.jump l J Q) a w) → c.wp P (Exit.jump l J Q) a w)
    (pass : ∀ a w, J a w → R.wp P (Exit.jump l (fun a' w' => J a' w' ∧ μ a' w' < μ a w) Q) a w) : (Code.scope c).wp P Q a w := by
  refine wp_scope_jumps l J μ hf (first fun a w hJ => Code.wp_mono (fun e a' w' h => ?_) (pass a w hJ)) (fun a w hJ => wp_seq (wp_skip (pass a w hJ)))
  cases e <;> first | exact ⟨h.1, h.2.1⟩ | exact h

theorem run_append_zero' {P : Program} (w : World) (t ty e : TypeId) (i : TypeInfo) (ht : P.underlying t = some (.slice e)) (hi : P.info? e = some i) (base : Option Addr) (n c : Nat) (hle : n ≤ c) (A : Option Addr) (c2 : Nat) :
    (Builtin.append_ #[t, t] ty #[.slice base n c, .slice A 0 c2]).run P w = .ok (.slice base n c) w := by
  cases A with
  | none => exact run_append_nothing w t t ty e i ht hi base n c hle _ (Go.Src.ofNil w ht c2)
  | some a => exact run_append_nothing w t t ty e i ht hi base n c hle _ (Go.Src.ofSlice w ht a 0 c2 [] (by simp) (by intro j u h; cases h) (by intro u h; cases h))
/-- append onto a row of the call's own: so many elements, or none. -/
theorem step_append_own {P : Program} {ops : Array Oper} {rest : List Oper} {o : Oper} {a : Act} {w : World} {Q : Exit → Act → World → Prop} (hgd : o.guard = none) (sx x : Operand) (t : TypeId) (ho : o.op = .call { callee := .builtin .append, args := #[sx, x], argTypes := #[t, t] })
    (B : Nat) (e : TypeId) (i : TypeInfo) (z : Value) (size bytes : Nat) (ht : P.underlying t = some (.slice e)) (hi : P.info? e = some i) (hz : i.zero = some z)
    (hsize : i.size = size) (hby : i.bytes = bytes) (hzs : z.cells.size = size) (hsz : 0 < size)
    (v : Value) (n : Nat) (xs : List Value) (hs : a.eval sx = v) (hrow : w.ownsRow B e size v n xs) (A : Option Addr) (m c : Nat) (news : List Value) (hx : a.eval x = .slice A m c) (hl : news.length = m * size)
    (hnews : 0 < m → ∃ ad, A = some ad ∧ ∀ (j : Nat) (u : Value), news[j]? = some u → w.cell? (ad.add j) = some u) (h1 : ∀ u ∈ news, u.oneCell' = true)
    (h63 : n + m ≤ 9223372036854775807) (hbytes : (n + m) * bytes ≤ 140737488355328) (hB : B ≤ w.heap.size)
    (h : ∀ A' c' w', n + m ≤ c' → c' ≤ 9223372036854775807 → Hid (w'.ownsRow B e size (.slice A' (n + m) c') (n + m) (xs ++ news) ∧ w.grownBy w' v.ownBlock ∧ (∀ k, (Value.slice A' (n + m) c').ownBlock = some k → v.ownBlock = some k ∨ w.heap.size ≤ k)) → wpList P ops Q rest (a.put o.dst (.slice A' (n + m) c')) w') :
    wpList P ops Q (o :: rest) a w := by
  by_cases hm : m = 0
  · subst hm
    obtain rfl : news = [] := List.eq_nil_of_length_eq_zero (by simpa using hl)
    obtain ⟨A0, c0, rfl, h2, h3⟩ := own_form hrow
    refine Lib.wpList_append_run w hgd sx x t t ho _ _ hs hx _ _ (run_append_zero' w t _ e i ht hi A0 n c0 h2 A c) ?_
    exact h A0 c0 w h2 h3 (show _ ∧ _ ∧ _ from ⟨by rw [List.append_nil]; exact hrow, ⟨rfl, rfl, rfl, Nat.le_refl _, fun _ _ _ => rfl⟩, fun k hk => .inl hk⟩)
  · obtain ⟨ad, rfl, hc⟩ := hnews (by omega)
    refine wpList_append_lies w hgd sx x t ho B e i z size bytes ht hi hz hsize hby hzs hsz v n xs hs hrow ad m c news hx hl hc h1 (by omega) (by simpa [maxLen] using h63) hbytes hB _ rfl ?_
    intro g cap w' hown hgr hat hlt
    have := own_le hown
    refine h _ _ w' this.1 this.2 (show _ ∧ _ ∧ _ from ⟨hown, hgr, fun k hk => ?_⟩)
    rcases hat with h2 | h2
    · exact .inl (h2.trans hk)
    · have h3 : g = k := by simpa [Value.ownBlock] using hk
      exact .inr (by omega)
end Go.Proofs.YtgknhojjnnljkaaDoor
