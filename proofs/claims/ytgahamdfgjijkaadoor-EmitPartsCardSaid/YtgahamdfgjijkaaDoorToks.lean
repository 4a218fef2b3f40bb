/- Rows of tokens that the program laid itself; package iac's All. -/
import Derived.Test.YtgahamdfgjijkaaDoorIacFeed
import Derived.Great.Ranges
import Derived.Great.BuildSlice
import Derived.Deep.WholeRow
namespace Go.Proofs.YtgahamdfgjijkaaDoor
open Go Go.RowKit
set_option maxRecDepth 100000

/-- A token, and where its body lies. -/
structure TkP where
  t : Tk
  ad : Option Addr
  cap : Nat
def TkP.val (x : TkP) : Value := .slice x.ad x.t.body.length x.cap
def TkP.cells (x : TkP) : List Value := tkCells x.t x.val
def flatTk : List TkP → List Value
  | [] => []
  | x :: l => x.cells ++ flatTk l
theorem flatTk_length (l : List TkP) : (flatTk l).length = l.length * 5 := by
  induction l with
  | nil => rfl
  | cons x l ih => simp only [flatTk, List.length_append, ih, List.length_cons, TkP.cells, tkCells_length]; omega
theorem flatTk_append (l k : List TkP) : flatTk (l ++ k) = flatTk l ++ flatTk k := by
  induction l with
  | nil => rfl
  | cons x l ih => simp [flatTk, ih]
theorem flatTk_one (l : List TkP) : ∀ v ∈ flatTk l, v.oneCell' = true := by
  induction l with
  | nil => intro v h; cases h
  | cons x l ih =>
    intro v h
    rcases List.mem_append.1 h with h | h
    · exact tk_one _ _ _ _ v h
    · exact ih v h
theorem flatTk_get : ∀ {l : List TkP} {i : Nat} {x : TkP}, l[i]? = some x → ∀ (j : Nat) (v : Value), x.cells[j]? = some v → (flatTk l)[i * 5 + j]? = some v
  | y :: l, 0, x, h, j, v, hj => by
    simp only [List.getElem?_cons_zero, Option.some.injEq] at h
    subst h
    have hjl := (List.getElem?_eq_some_iff.1 hj).1
    rw [Nat.zero_mul, Nat.zero_add, flatTk, List.getElem?_append_left hjl]
    exact hj
  | y :: l, i + 1, x, h, j, v, hj => by
    have := flatTk_get (l := l) (i := i) (x := x) (by simpa using h) j v hj
    have e : y.cells.length = 5 := rfl
    rw [flatTk, List.getElem?_append_right (by rw [e]; omega), e, show (i + 1) * 5 + j - 5 = i * 5 + j from by omega]
    exact this

theorem TkP.cells_one (x : TkP) : ∀ v ∈ x.cells, v.oneCell' = true := tk_one _ _ _ _
/-- What a byte leaves, the token's cells by a name. -/
theorem feed_cs {w : World} {p : Nat} {m : Ms} (h : IsMs w p m) (c : UInt8) (B : Nat) (hB : B ≤ w.heap.size) :
    Calls Tryd.prog 32 #[.pointer (some ⟨p, 0, none⟩), .int .u8 (c.toNat : Int)] w fun e w' => ∃ cs : List Value, e = .returned (.tuple #[.agg cs.toArray, .bool (feed m c).2.isSome]) ∧ Hid (cs.length = 5) ∧ Hid (∀ v ∈ cs, v.oneCell' = true) ∧
      Hid (∃ x : TkP, cs = x.cells ∧ x.t = tokOf (feed m c).2 ∧ Body w' B x.val x.t.body) ∧ Hid (IsMs w' p (feed m c).1) ∧ Hid (Only (· = p) w w') :=
  (feed_any h c B hB).mono fun e w' ⟨A, n, cc, he, hn, hb, hm, ho⟩ => by
    subst hn
    exact ⟨TkP.cells ⟨tokOf (feed m c).2, A, cc⟩, he, Lib.hid rfl, Lib.hid (TkP.cells_one _), Lib.hid ⟨⟨tokOf (feed m c).2, A, cc⟩, rfl, rfl, hb⟩, Lib.hid hm, Lib.hid ho⟩

/-- A row of tokens. -/
structure Toks (w : World) (B : Nat) (v : Value) (ps : List TkP) : Prop where
  row : w.ownsRow B 26 5 v ps.length (flatTk ps)
  bodies : ∀ x ∈ ps, Body w B x.val x.t.body
section
variable {w w' : World} {B : Nat} {v : Value} {ps : List TkP}
theorem Toks.nil (w : World) (B : Nat) : Toks w B (.slice none 0 0) [] := ⟨own_nil w B _ _, fun x h => by cases h⟩
/-- What turns is no body and no such row. -/
theorem Toks.only {S : Nat → Prop} (h : Toks w B v ps) (ho : Only S w w') (h1 : ∀ k, v.ownBlock = some k → ¬ S k) (h2 : ∀ x ∈ ps, ∀ k, x.val.ownBlock = some k → ¬ S k) : Toks w' B v ps :=
  ⟨own_only h.row ho h1, fun x hx => own_only (h.bodies x hx) ho (h2 x hx)⟩
theorem Toks.same (h : Toks w B v ps) (ho : Only (fun _ => False) w w') : Toks w' B v ps := h.only ho (fun _ _ h => h) (fun _ _ _ _ h => h)
theorem Toks.ms {p : Nat} {m : Ms} (h : Toks w B v ps) (ho : Only (· = p) w w') (hm : IsMs w p m) : Toks w' B v ps := by
  obtain ⟨_, _, hb, _⟩ := hm
  exact h.only ho (own_ne h.row hb (by decide)) (fun x hx => own_ne (h.bodies x hx) hb (by decide))
/-- A block of the call's own that is no body and no such row. -/
theorem Toks.blk {g : Nat} {t : TypeId} {cs : List Value} (h : Toks w B v ps) (ho : Only (· = g) w w') (hb : Blk w g t cs) (h1 : t ≠ 26) (h2 : t ≠ 5) : Toks w' B v ps :=
  h.only ho (own_ne h.row hb (fun e => h1 e.symm)) (fun x hx => own_ne (h.bodies x hx) hb (fun e => h2 e.symm))
theorem Toks.mono {B' : Nat} (h : Toks w B v ps) (hB : B' ≤ B) : Toks w B' v ps := ⟨own_mono h.row hB, fun x hx => own_mono (h.bodies x hx) hB⟩
theorem Toks.form (h : Toks w B v ps) : ∃ A c, v = .slice A ps.length c ∧ ps.length ≤ c ∧ c ≤ 9223372036854775807 := own_form h.row
/-- What lies at a place. -/
theorem Toks.at_ {A : Option Addr} {n c i : Nat} {x : TkP} (h : Toks w B (.slice A n c) ps) (hx : ps[i]? = some x) :
    ∃ g, A = some ⟨g, 0, none⟩ ∧ B ≤ g ∧ g < w.heap.size ∧ w.rangeAt g (i * 5) x.cells ∧ Body w B x.val x.t.body := by
  obtain ⟨A', c', hv, _⟩ := own_form h.row
  injection hv with e1 e2 e3
  subst e1 e2 e3
  have hi := (List.getElem?_eq_some_iff.1 hx).1
  obtain ⟨g, hA, hB, hlt, hc⟩ := own_at h.row (by omega)
  exact ⟨g, hA, hB, hlt, fun j u hj => hc _ _ (flatTk_get hx j u hj), h.bodies x (List.mem_of_getElem? hx)⟩
end

/-- A source of bytes, read on behind its first one. -/
theorem Src.tail {w : World} {A : Option Addr} {n : Nat} {x : UInt8} {xs : List UInt8} (h : Src w A n (x :: xs)) (D : Option Addr) (hD : 1 < n → ∀ ad, A = some ad → D = some (ad.add 1)) : Src w D (n - 1) xs := by
  obtain ⟨hl, hc⟩ := h
  simp only [List.length_cons] at hl
  refine ⟨by omega, fun hn => ?_⟩
  obtain ⟨ad, rfl, h2⟩ := hc (by omega)
  refine ⟨_, hD (by omega) ad rfl, fun j y hy => ?_⟩
  rw [Go.Deep.add_add, show 1 + j = j + 1 from by omega]
  exact h2 (j + 1) y (by simpa using hy)

section
variable {P : Program} {ops : Array Oper} {rest : List Oper} {o : Oper} {a : Act} {w : World} {Q : Exit → Act → World → Prop}
/-- A variable of a struct's type. -/
theorem step_alloc (hgd : o.guard = none) (t : TypeId) (ho : o.op = .alloc t) (cells : List Value) (n : Nat) (hz : (P.info? t).map (fun i => (i.zero, i.size)) = some (some (.agg cells.toArray), n))
    (h : wpList P ops Q rest (a.put o.dst (.pointer (some ⟨w.heap.size, 0, none⟩))) (w.alloc (.cells cells.toArray t))) : wpList P ops Q (o :: rest) a w := by
  refine wpList_plain hgd fun K hK => ?_
  have hzz := (zero_of_info hz).1
  unfold Oper.wp execOp
  simp only [ho, Sem.run_bind, Instr.alloc, newVar, newRow, hzz, run_newObj_alloc, Sem.run_pure, Result.andThen_ok]
  exact hK _ _ h
end
theorem info_machine : (Tryd.prog.info? 59).map (fun i => (i.zero, i.size)) = some (some (.agg (msCells Ms.zero (zeros 256)).toArray), 261) := by kernel_rfl
theorem info_tok : (Tryd.prog.info? 26).map (fun i => (i.zero, i.size, i.bytes)) = some (some (.agg #[.int .i64 0, .int .i64 0, .int .i64 0, .slice none 0 0, .bool false]), 5, 56) := by kernel_rfl

theorem fill_tok (z : List Value) (hz : z.length = 5) (cs : List Value) (hl : cs.length = 5) : Instr.fill (fun i => some (i * 5, 5)) ((Array.range (1 * 5)).map (z.toArray[· % z.toArray.size]!)) [(0, .agg cs.toArray)] = some cs.toArray := by
  match z, hz, cs, hl with
  | [z0, z1, z2, z3, z4], _, [a, b, c, d, e], _ =>
    have e : (Array.range (1 * 5)).map (#[z0, z1, z2, z3, z4][· % #[z0, z1, z2, z3, z4].size]!) = #[z0, z1, z2, z3, z4] := by
      rw [show Array.range (1 * 5) = #[0, 1, 2, 3, 4] from by decide]
      simp
    show Instr.fill _ ((Array.range (1 * 5)).map (#[z0, z1, z2, z3, z4][· % #[z0, z1, z2, z3, z4].size]!)) _ = _
    rw [e]
    simp [Instr.fill, Value.cells]
/-- []Token{x} -/
theorem step_token {ops : Array Oper} {rest : List Oper} {o : Oper} {a : Act} {w : World} {Q : Exit → Act → World → Prop} (hgd : o.guard = none) (x : Operand) (ho : o.op = .buildSlice 22 1 #[(0, x)]) (cs : List Value) (hx : a.eval x = .agg cs.toArray) (hl : cs.length = 5)
    (h : wpList Tryd.prog ops Q rest (a.put o.dst (.slice (some ⟨w.heap.size, 0, none⟩) 1 1)) (w.alloc (.cells cs.toArray 26))) : wpList Tryd.prog ops Q (o :: rest) a w := by
  obtain ⟨i, hi, hz, h1, h2⟩ := info_parts info_tok
  refine wpList_buildSlice hgd 22 26 1 #[(0, x)] ho cs.toArray i _ Tryd.underlying22 hi hz (by rw [h1]; decide) (by rw [h1]; decide) ?_ h
  rw [h1]
  have := fill_tok [.int .i64 0, .int .i64 0, .int .i64 0, .slice none 0 0, .bool false] rfl cs hl
  simpa [hx, Value.cells] using this

theorem at_add (g j : Nat) : (⟨g, 0, none⟩ : Addr).add j = ⟨g, j, none⟩ := by unfold Addr.add; split <;> simp_all
/-- A token more. -/
theorem Toks.more {w w' : World} {B : Nat} {v v' : Value} {ps : List TkP} (h : Toks w B v ps) (x : TkP) (hx : Body w B x.val x.t.body) (hrow : w'.ownsRow B 26 5 v' (ps.length + 1) (flatTk ps ++ x.cells)) (hg : w.grownBy w' v.ownBlock) : Toks w' B v' (ps ++ [x]) := by
  have hne : (5 : Nat) ≠ 26 := by decide
  refine ⟨?_, fun z hz => ?_⟩
  · rw [flatTk_append, List.length_append]
    simpa [flatTk] using hrow
  · rcases List.mem_append.1 hz with hz | hz
    · exact own_kept (h.bodies z hz) h.row hne hg
    · obtain rfl := List.mem_singleton.1 hz
      exact own_kept hx h.row hne hg

/-- A token's five cells. -/
def FiveAt (w : World) (g o : Nat) (t : Tk) (A : Option Addr) (n c : Nat) : Prop :=
  w.cell? ⟨g, o, none⟩ = some (.int .i64 t.kind) ∧ w.cell? ⟨g, o + 1, none⟩ = some (.int .i64 t.code) ∧ w.cell? ⟨g, o + 2, none⟩ = some (.int .i64 t.opt) ∧ w.cell? ⟨g, o + 3, none⟩ = some (.slice A n c) ∧ w.cell? ⟨g, o + 4, none⟩ = some (.bool t.cut)
theorem five_of {w : World} {g o : Nat} {x : TkP} (h : w.rangeAt g o x.cells) : FiveAt w g o x.t x.ad x.t.body.length x.cap :=
  ⟨h 0 _ rfl, h 1 _ rfl, h 2 _ rfl, h 3 _ rfl, h 4 _ rfl⟩
theorem FiveAt.only {S : Nat → Prop} {w w' : World} {g o : Nat} {t : Tk} {A : Option Addr} {n c : Nat} (h : FiveAt w g o t A n c) (ho : Only S w w') (hS : ¬ S g) : FiveAt w' g o t A n c := by
  obtain ⟨h0, h1, h2, h3, h4⟩ := h
  exact ⟨ho.cellv h0 hS, ho.cellv h1 hS, ho.cellv h2 hS, ho.cellv h3 hS, ho.cellv h4 hS⟩
end Go.Proofs.YtgahamdfgjijkaaDoor
