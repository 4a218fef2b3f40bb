/- A token's cells; rows of tokens that the program laid itself. -/
import Derived.Test.YtelmfncdamakfaaBody
import Derived.Test.YtelmfncdamakfaaIacSay
namespace Go.Proofs.Ytelmfncdamakfaa
open Go Go.RowKit
set_option maxRecDepth 100000
set_option maxHeartbeats 4000000

/-- A token's cells. -/
def tkCells (t : Tk) (v : Value) : List Value := [.int .i64 t.kind, .int .i64 t.code, .int .i64 t.opt, v, .bool t.cut]
theorem tkCells_length (t : Tk) (v : Value) : (tkCells t v).length = 5 := rfl
theorem size_tok : (Try.prog.info? 52).map (·.size) = some 5 := by kernel_rfl
theorem tk_one (t : Tk) (A : Option Addr) (n c : Nat) : ∀ v ∈ tkCells t (.slice A n c), v.oneCell' = true := by
  intro v hv
  simp only [tkCells, List.mem_cons, List.not_mem_nil, or_false] at hv
  rcases hv with rfl | rfl | rfl | rfl | rfl <;> rfl

/-- A token, and where its body lies. -/
structure TkP where
  t : Tk
  ad : Option Addr
  cap : Nat
def TkP.val (x : TkP) : Value := .slice x.ad x.t.body.length x.cap
def TkP.cells (x : TkP) : List Value := tkCells x.t x.val
def flatTk : List TkP → List Value
  | [] => []
  | x :: l => x.cells ++ flatTk l
theorem flatTk_length (l : List TkP) : (flatTk l).length = l.length * 5 := by
  induction l with
  | nil => rfl
  | cons x l ih => simp only [flatTk, List.length_append, ih, List.length_cons, TkP.cells, tkCells_length]; omega
theorem flatTk_append (l k : List TkP) : flatTk (l ++ k) = flatTk l ++ flatTk k := by
  induction l with
  | nil => rfl
  | cons x l ih => simp [flatTk, ih]
theorem flatTk_one (l : List TkP) : ∀ v ∈ flatTk l, v.oneCell' = true := by
  induction l with
  | nil => intro v h; cases h
  | cons x l ih =>
    intro v h
    rcases List.mem_append.1 h with h | h
    · exact tk_one _ _ _ _ v h
    · exact ih v h
theorem flatTk_get : ∀ {l : List TkP} {i : Nat} {x : TkP}, l[i]? = some x → ∀ (j : Nat) (v : Value), x.cells[j]? = some v → (flatTk l)[i * 5 + j]? = some v
  | y :: l, 0, x, h, j, v, hj => by
    simp only [List.getElem?_cons_zero, Option.some.injEq] at h
    subst h
    have hjl := (List.getElem?_eq_some_iff.1 hj).1
    rw [Nat.zero_mul, Nat.zero_add, flatTk, List.getElem?_append_left hjl]
    exact hj
  | y :: l, i + 1, x, h, j, v, hj => by
    have := flatTk_get (l := l) (i := i) (x := x) (by simpa using h) j v hj
    have e : y.cells.length = 5 := rfl
    rw [flatTk, List.getElem?_append_right (by rw [e]; omega), e, show (i + 1) * 5 + j - 5 = i * 5 + j from by omega]
    exact this

theorem TkP.cells_one (x : TkP) : ∀ v ∈ x.cells, v.oneCell' = true := tk_one _ _ _ _
/-- A row of tokens. -/
structure Toks (w : World) (B : Nat) (v : Value) (ps : List TkP) : Prop where
  row : w.ownsRow B 52 5 v ps.length (flatTk ps)
  bodies : ∀ x ∈ ps, Body w B x.val x.t.body
section
variable {w w' : World} {B : Nat} {v : Value} {ps : List TkP}
theorem Toks.nil (w : World) (B : Nat) : Toks w B (.slice none 0 0) [] := ⟨own_nil w B _ _, fun x h => by cases h⟩
/-- What turns is no body and no such row. -/
theorem Toks.only {S : Nat → Prop} (h : Toks w B v ps) (ho : Only S w w') (h1 : ∀ k, v.ownBlock = some k → ¬ S k) (h2 : ∀ x ∈ ps, ∀ k, x.val.ownBlock = some k → ¬ S k) : Toks w' B v ps :=
  ⟨own_only h.row ho h1, fun x hx => own_only (h.bodies x hx) ho (h2 x hx)⟩
theorem Toks.same (h : Toks w B v ps) (ho : Only (fun _ => False) w w') : Toks w' B v ps := h.only ho (fun _ _ h => h) (fun _ _ _ _ h => h)
/-- A block of the call's own that is no body and no such row. -/
theorem Toks.blk {g : Nat} {t : TypeId} {cs : List Value} (h : Toks w B v ps) (ho : Only (· = g) w w') (hb : Blk w g t cs) (h1 : t ≠ 52) (h2 : t ≠ 5) : Toks w' B v ps :=
  h.only ho (own_ne h.row hb (fun e => h1 e.symm)) (fun x hx => own_ne (h.bodies x hx) hb (fun e => h2 e.symm))
theorem Toks.mono {B' : Nat} (h : Toks w B v ps) (hB : B' ≤ B) : Toks w B' v ps := ⟨own_mono h.row hB, fun x hx => own_mono (h.bodies x hx) hB⟩
theorem Toks.form (h : Toks w B v ps) : ∃ A c, v = .slice A ps.length c ∧ ps.length ≤ c ∧ c ≤ 9223372036854775807 := own_form h.row
/-- What lies at a place. -/
theorem Toks.at_ {A : Option Addr} {n c i : Nat} {x : TkP} (h : Toks w B (.slice A n c) ps) (hx : ps[i]? = some x) :
    ∃ g, A = some ⟨g, 0, none⟩ ∧ B ≤ g ∧ g < w.heap.size ∧ w.rangeAt g (i * 5) x.cells ∧ Body w B x.val x.t.body := by
  obtain ⟨A', c', hv, _⟩ := own_form h.row
  injection hv with e1 e2 e3
  subst e1 e2 e3
  have hi := (List.getElem?_eq_some_iff.1 hx).1
  obtain ⟨g, hA, hB, hlt, hc⟩ := own_at h.row (by omega)
  exact ⟨g, hA, hB, hlt, fun j u hj => hc _ _ (flatTk_get hx j u hj), h.bodies x (List.mem_of_getElem? hx)⟩
end

theorem info_tok : (Try.prog.info? 52).map (fun i => (i.zero, i.size, i.bytes)) = some (some (.agg #[.int .i64 0, .int .i64 0, .int .i64 0, .slice none 0 0, .bool false]), 5, 56) := by kernel_rfl

/-- []Token{x} -/
theorem step_token {ops : Array Oper} {rest : List Oper} {o : Oper} {a : Act} {w : World} {Q : Exit → Act → World → Prop} (hgd : o.guard = none) (x : Operand) (ho : o.op = .buildSlice 33 1 #[(0, x)]) (cs : List Value) (hx : a.eval x = .agg cs.toArray) (hl : cs.length = 5)
    (h : wpList Try.prog ops Q rest (a.put o.dst (.slice (some ⟨w.heap.size, 0, none⟩) 1 1)) (w.alloc (.cells cs.toArray 52))) : wpList Try.prog ops Q (o :: rest) a w := by
  obtain ⟨i, hi, hz, h1, h2⟩ := info_parts info_tok
  refine wpList_buildSlice hgd 33 52 1 #[(0, x)] ho cs.toArray i _ Try.underlying33 hi hz (by rw [h1]; decide) (by rw [h1]; decide) ?_ h
  rw [h1]
  have := fill_tok [.int .i64 0, .int .i64 0, .int .i64 0, .slice none 0 0, .bool false] rfl cs hl
  simpa [hx, Value.cells] using this

/-- A token more. -/
theorem Toks.more {w w' : World} {B : Nat} {v v' : Value} {ps : List TkP} (h : Toks w B v ps) (x : TkP) (hx : Body w B x.val x.t.body) (hrow : w'.ownsRow B 52 5 v' (ps.length + 1) (flatTk ps ++ x.cells)) (hg : w.grownBy w' v.ownBlock) : Toks w' B v' (ps ++ [x]) := by
  have hne : (5 : Nat) ≠ 52 := by decide
  refine ⟨?_, fun z hz => ?_⟩
  · rw [flatTk_append, List.length_append]
    simpa [flatTk] using hrow
  · rcases List.mem_append.1 hz with hz | hz
    · exact own_kept (h.bodies z hz) h.row hne hg
    · obtain rfl := List.mem_singleton.1 hz
      exact own_kept hx h.row hne hg

/-- A token's five cells. -/
def FiveAt (w : World) (g o : Nat) (t : Tk) (A : Option Addr) (n c : Nat) : Prop :=
  w.cell? ⟨g, o, none⟩ = some (.int .i64 t.kind) ∧ w.cell? ⟨g, o + 1, none⟩ = some (.int .i64 t.code) ∧ w.cell? ⟨g, o + 2, none⟩ = some (.int .i64 t.opt) ∧ w.cell? ⟨g, o + 3, none⟩ = some (.slice A n c) ∧ w.cell? ⟨g, o + 4, none⟩ = some (.bool t.cut)
theorem five_of {w : World} {g o : Nat} {x : TkP} (h : w.rangeAt g o x.cells) : FiveAt w g o x.t x.ad x.t.body.length x.cap :=
  ⟨h 0 _ rfl, h 1 _ rfl, h 2 _ rfl, h 3 _ rfl, h 4 _ rfl⟩
theorem FiveAt.only {S : Nat → Prop} {w w' : World} {g o : Nat} {t : Tk} {A : Option Addr} {n c : Nat} (h : FiveAt w g o t A n c) (ho : Only S w w') (hS : ¬ S g) : FiveAt w' g o t A n c := by
  obtain ⟨h0, h1, h2, h3, h4⟩ := h
  exact ⟨ho.cellv h0 hS, ho.cellv h1 hS, ho.cellv h2 hS, ho.cellv h3 hS, ho.cellv h4 hS⟩
end Go.Proofs.Ytelmfncdamakfaa
