/- Several texts in one. -/
import Derived.Test.YtbnfhklpobephaaGreatDoorJSnIn
import Derived.Test.YtbnfhklpobephaaGreatDoorJIacSay
import Derived.Test.YtbnfhklpobephaaGreatDoorJBase
/- A token's cells; rows of tokens that the program laid itself. -/
namespace Go.Proofs.YtbnfhklpobephaaGreatDoor
open Go Go.RowKit
set_option maxRecDepth 100000
set_option maxHeartbeats 4000000

/-- A token's cells. -/
def tkCells (t : Tk) (v : Value) : List Value := [.int .i64 t.kind, .int .i64 t.code, .int .i64 t.opt, v, .bool t.cut]
theorem size_tok : (Tryz.prog.info? 178).map (·.size) = some 5 := by kernel_rfl
theorem tk_one (t : Tk) (A : Option Addr) (n c : Nat) : ∀ v ∈ tkCells t (.slice A n c), v.oneCell' = true := by
  intro v hv
  simp only [tkCells, List.mem_cons, List.not_mem_nil, or_false] at hv
  rcases hv with rfl | rfl | rfl | rfl | rfl <;> rfl

/-- A token, and where its body lies. -/
structure TkP where
  t : Tk
  ad : Option Addr
  cap : Nat
def TkP.val (x : TkP) : Value := .slice x.ad x.t.body.length x.cap
def TkP.cells (x : TkP) : List Value := tkCells x.t x.val
def flatTk : List TkP → List Value
  | [] => []
  | x :: l => x.cells ++ flatTk l
theorem flatTk_append (l k : List TkP) : flatTk (l ++ k) = flatTk l ++ flatTk k := by
  induction l with
  | nil => rfl
  | cons x l ih => simp [flatTk, ih]
theorem flatTk_get : ∀ {l : List TkP} {i : Nat} {x : TkP}, l[i]? = some x → ∀ (j : Nat) (v : Value), x.cells[j]? = some v → (flatTk l)[i * 5 + j]? = some v
  | y :: l, 0, x, h, j, v, hj => by
    simp only [List.getElem?_cons_zero, Option.some.injEq] at h
    subst h
    have hjl := (List.getElem?_eq_some_iff.1 hj).1
    rw [Nat.zero_mul, Nat.zero_add, flatTk, List.getElem?_append_left hjl]
    exact hj
  | y :: l, i + 1, x, h, j, v, hj => by
    have := flatTk_get (l := l) (i := i) (x := x) (by simpa using h) j v hj
    have e : y.cells.length = 5 := rfl
    rw [flatTk, List.getElem?_append_right (by rw [e]; omega), e, show (i + 1) * 5 + j - 5 = i * 5 + j from by omega]
    exact this

theorem TkP.cells_one (x : TkP) : ∀ v ∈ x.cells, v.oneCell' = true := tk_one _ _ _ _
/-- A row of tokens. -/
structure Toks (w : World) (B : Nat) (v : Value) (ps : List TkP) : Prop where
  row : w.ownsRow B 178 5 v ps.length (flatTk ps)
  bodies : ∀ x ∈ ps, Body w B x.val x.t.body
section
variable {w w' : World} {B : Nat} {v : Value} {ps : List TkP}
theorem Toks.nil (w : World) (B : Nat) : Toks w B (.slice none 0 0) [] := ⟨own_nil w B _ _, fun x h => by cases h⟩
/-- What turns is no body and no such row. -/
theorem Toks.only {S : Nat → Prop} (h : Toks w B v ps) (ho : Only S w w') (h1 : ∀ k, v.ownBlock = some k → ¬ S k) (h2 : ∀ x ∈ ps, ∀ k, x.val.ownBlock = some k → ¬ S k) : Toks w' B v ps :=
  ⟨own_only h.row ho h1, fun x hx => own_only (h.bodies x hx) ho (h2 x hx)⟩
theorem Toks.same (h : Toks w B v ps) (ho : Only (fun _ => False) w w') : Toks w' B v ps := h.only ho (fun _ _ h => h) (fun _ _ _ _ h => h)
/-- A block of the call's own that is no body and no such row. -/
theorem Toks.blk {g : Nat} {t : TypeId} {cs : List Value} (h : Toks w B v ps) (ho : Only (· = g) w w') (hb : Blk w g t cs) (h1 : t ≠ 178) (h2 : t ≠ 5) : Toks w' B v ps :=
  h.only ho (own_ne h.row hb (fun e => h1 e.symm)) (fun x hx => own_ne (h.bodies x hx) hb (fun e => h2 e.symm))
theorem Toks.mono {B' : Nat} (h : Toks w B v ps) (hB : B' ≤ B) : Toks w B' v ps := ⟨own_mono h.row hB, fun x hx => own_mono (h.bodies x hx) hB⟩
theorem Toks.form (h : Toks w B v ps) : ∃ A c, v = .slice A ps.length c ∧ ps.length ≤ c ∧ c ≤ 9223372036854775807 := own_form h.row
/-- What lies at a place. -/
theorem Toks.at_ {A : Option Addr} {n c i : Nat} {x : TkP} (h : Toks w B (.slice A n c) ps) (hx : ps[i]? = some x) :
    ∃ g, A = some ⟨g, 0, none⟩ ∧ B ≤ g ∧ g < w.heap.size ∧ w.rangeAt g (i * 5) x.cells ∧ Body w B x.val x.t.body := by
  obtain ⟨A', c', hv, _⟩ := own_form h.row
  injection hv with e1 e2 e3
  subst e1 e2 e3
  have hi := (List.getElem?_eq_some_iff.1 hx).1
  obtain ⟨g, hA, hB, hlt, hc⟩ := own_at h.row (by omega)
  exact ⟨g, hA, hB, hlt, fun j u hj => hc _ _ (flatTk_get hx j u hj), h.bodies x (List.mem_of_getElem? hx)⟩
end

/-- A token more. -/
theorem Toks.more {w w' : World} {B : Nat} {v v' : Value} {ps : List TkP} (h : Toks w B v ps) (x : TkP) (hx : Body w B x.val x.t.body) (hrow : w'.ownsRow B 178 5 v' (ps.length + 1) (flatTk ps ++ x.cells)) (hg : w.grownBy w' v.ownBlock) : Toks w' B v' (ps ++ [x]) := by
  have hne : (5 : Nat) ≠ 178 := by decide
  refine ⟨?_, fun z hz => ?_⟩
  · rw [flatTk_append, List.length_append]
    simpa [flatTk] using hrow
  · rcases List.mem_append.1 hz with hz | hz
    · exact own_kept (h.bodies z hz) h.row hne hg
    · obtain rfl := List.mem_singleton.1 hz
      exact own_kept hx h.row hne hg

/-- A token's five cells. -/
def FiveAt (w : World) (g o : Nat) (t : Tk) (A : Option Addr) (n c : Nat) : Prop :=
  w.cell? ⟨g, o, none⟩ = some (.int .i64 t.kind) ∧ w.cell? ⟨g, o + 1, none⟩ = some (.int .i64 t.code) ∧ w.cell? ⟨g, o + 2, none⟩ = some (.int .i64 t.opt) ∧ w.cell? ⟨g, o + 3, none⟩ = some (.slice A n c) ∧ w.cell? ⟨g, o + 4, none⟩ = some (.bool t.cut)
theorem FiveAt.only {S : Nat → Prop} {w w' : World} {g o : Nat} {t : Tk} {A : Option Addr} {n c : Nat} (h : FiveAt w g o t A n c) (ho : Only S w w') (hS : ¬ S g) : FiveAt w' g o t A n c := by
  obtain ⟨h0, h1, h2, h3, h4⟩ := h
  exact ⟨ho.cellv h0 hS, ho.cellv h1 hS, ho.cellv h2 hS, ho.cellv h3 hS, ho.cellv h4 hS⟩
end Go.Proofs.YtbnfhklpobephaaGreatDoor
/- Package iac: one contract for each of its machine's calls. -/
namespace Go.Proofs.YtbnfhklpobephaaGreatDoor
open Go Go.RowKit
set_option maxRecDepth 100000

theorem size_machine : (Tryz.prog.info? 126).map (·.size) = some 261 := by kernel_rfl

/-- A machine's cells. -/
def msCells (m : Ms) (junk : List Value) : List Value := .int .i64 (m.st : Int) :: .int .i64 m.verb :: .int .i64 m.opt :: (m.body.map B8 ++ junk ++ [.int .i64 (m.body.length : Int), .bool m.cut])
/-- A machine that lies in block p from cell mo on, other cells ahead of it and behind it. -/
def MsAt (w : World) (p mo : Nat) (tp : TypeId) (pre : List Value) (m : Ms) (post : List Value) : Prop :=
  m.Ok ∧ pre.length = mo ∧ ∃ junk, Blk w p tp (pre ++ (msCells m junk ++ post)) ∧ m.body.length + junk.length = 256 ∧ ∀ v ∈ junk, v.oneCell' = true
theorem msCells_length (m : Ms) (junk : List Value) (h : m.body.length + junk.length = 256) : (msCells m junk).length = 261 := by
  simp [msCells]
  omega
section
variable {w w' : World} {p mo : Nat} {tp : TypeId} {pre post : List Value} {m : Ms}
theorem MsAt.only {S : Nat → Prop} (h : MsAt w p mo tp pre m post) (ho : Only S w w') (hS : ¬ S p) : MsAt w' p mo tp pre m post := by
  obtain ⟨h1, h0, junk, h2, h3⟩ := h
  exact ⟨h1, h0, junk, h2.only ho hS, h3⟩
theorem MsAt.lt (h : MsAt w p mo tp pre m post) : p < w.heap.size := by
  obtain ⟨_, _, _, h, _⟩ := h
  exact h.lt
theorem MsAt.alloc (h : MsAt w p mo tp pre m post) (o : Obj) : MsAt (w.alloc o) p mo tp pre m post := by
  obtain ⟨h1, h0, junk, h2, h3⟩ := h
  exact ⟨h1, h0, junk, h2.alloc o, h3⟩
theorem MsAt.blk (h : MsAt w p mo tp pre m post) : ∃ cs, Blk w p tp cs := by
  obtain ⟨_, _, junk, h2, _⟩ := h
  exact ⟨_, h2⟩
theorem MsAt.ne {g : Nat} {t : TypeId} {cs : List Value} (h : MsAt w p mo tp pre m post) (hb : Blk w g t cs) (ht : t ≠ tp) : g ≠ p := by
  obtain ⟨_, h2⟩ := h.blk
  exact hb.ne h2 ht
theorem MsAt.setVerb (h : MsAt w p mo tp pre m post) (hst : m.st ≠ 0) (v : Int) : MsAt (w.setCell ⟨p, mo + 1, none⟩ (.int .i64 v)) p mo tp pre { m with verb := v } post := by
  obtain ⟨h1, h0, junk, h2, h3, h4⟩ := h
  refine ⟨⟨h1.st, h1.body, fun h => absurd h hst⟩, h0, junk, ?_, h3, h4⟩
  have := h2.setCell (mo + 1) (.int .i64 v)
  rwa [set_mid h0 1 (by rw [msCells_length _ _ h3]; omega)] at this
theorem MsAt.setOpt (h : MsAt w p mo tp pre m post) (hst : m.st ≠ 0) (v : Int) : MsAt (w.setCell ⟨p, mo + 2, none⟩ (.int .i64 v)) p mo tp pre { m with opt := v } post := by
  obtain ⟨h1, h0, junk, h2, h3, h4⟩ := h
  refine ⟨⟨h1.st, h1.body, fun h => absurd h hst⟩, h0, junk, ?_, h3, h4⟩
  have := h2.setCell (mo + 2) (.int .i64 v)
  rwa [set_mid h0 2 (by rw [msCells_length _ _ h3]; omega)] at this
theorem MsAt.c0 (h : MsAt w p mo tp pre m post) : w.cell? ⟨p, mo, none⟩ = some (.int .i64 (m.st : Int)) := by
  obtain ⟨_, h0, _, hb, h3, _⟩ := h
  rw [hb.cell]
  exact get_mid (i := 0) h0 (by rw [msCells_length _ _ h3]; omega)
theorem MsAt.c1 (h : MsAt w p mo tp pre m post) : w.cell? ⟨p, mo + 1, none⟩ = some (.int .i64 m.verb) := by
  obtain ⟨_, h0, _, hb, h3, _⟩ := h
  rw [hb.cell, get_mid h0 1 (by rw [msCells_length _ _ h3]; omega)]
  rfl
theorem MsAt.c2 (h : MsAt w p mo tp pre m post) : w.cell? ⟨p, mo + 2, none⟩ = some (.int .i64 m.opt) := by
  obtain ⟨_, h0, _, hb, h3, _⟩ := h
  rw [hb.cell, get_mid h0 2 (by rw [msCells_length _ _ h3]; omega)]
  rfl
theorem MsAt.frozen (h : MsAt w p mo tp pre m post) (i : Nat) : w.frozen? ⟨p, i, none⟩ = false := by
  obtain ⟨_, _, _, hb, _⟩ := h
  exact hb.frozen i
end
/-- A machine at block p. -/
def IsMs (w : World) (p : Nat) (m : Ms) : Prop := m.Ok ∧ ∃ junk, Blk w p 126 (msCells m junk) ∧ m.body.length + junk.length = 256 ∧ ∀ v ∈ junk, v.oneCell' = true
theorem IsMs.at_ {w : World} {p : Nat} {m : Ms} (h : IsMs w p m) : MsAt w p 0 126 [] m [] := by
  obtain ⟨h1, junk, h2, h3⟩ := h
  exact ⟨h1, rfl, junk, by simpa using h2, h3⟩
theorem MsAt.is {w : World} {p : Nat} {m : Ms} (h : MsAt w p 0 126 [] m []) : IsMs w p m := by
  obtain ⟨h1, _, junk, h2, h3⟩ := h
  exact ⟨h1, junk, by simpa using h2, h3⟩
section
variable {w w' : World} {p : Nat} {m : Ms}
theorem IsMs.only {S : Nat → Prop} (h : IsMs w p m) (ho : Only S w w') (hS : ¬ S p) : IsMs w' p m := by
  obtain ⟨h1, junk, h2, h3⟩ := h
  exact ⟨h1, junk, h2.only ho hS, h3⟩
theorem IsMs.lt (h : IsMs w p m) : p < w.heap.size := by
  obtain ⟨_, _, h, _⟩ := h
  exact h.lt
theorem IsMs.alloc (h : IsMs w p m) (o : Obj) : IsMs (w.alloc o) p m := by
  obtain ⟨h1, junk, h2, h3⟩ := h
  exact ⟨h1, junk, h2.alloc o, h3⟩
theorem IsMs.frozen (h : IsMs w p m) (i : Nat) : w.frozen? ⟨p, i, none⟩ = false := by
  obtain ⟨_, _, hb, _⟩ := h
  exact hb.frozen i
end
theorem zero_cells : msCells Ms.zero (zeros 256) = (List.replicate 3 (.int .i64 0)) ++ zeros 256 ++ [.int .i64 0, .bool false] := rfl

theorem wait_in {w : World} {p mo : Nat} {tp : TypeId} {pre post : List Value} {m : Ms} (h : MsAt w p mo tp pre m post) (s : Nat) (hs : s ≤ 5) (hs0 : 0 < s) (z : Int) (hz : z = (s : Int)) :
    Calls Tryz.prog 156 #[.pointer (some ⟨p, mo, none⟩), .int .i64 z] w fun e w' =>
      e = .returned (.tuple #[.agg (tkCells Tk.none (.slice none 0 0)).toArray, .bool false]) ∧ MsAt w' p mo tp pre (m.to s) post ∧ Only (· = p) w w' := by
  subst hz
  have c0 := h.c0
  have f0 := h.frozen mo
  obtain ⟨hok, hm, junk, hb, hl, h1⟩ := h
  have hlt := hb.lt
  have hb1 := hb.setCell mo (.int .i64 (s : Int))
  have e1 := set_mid (pre := pre) (post := post) (xs := msCells m junk) hm 0 (by rw [msCells_length _ _ hl]; omega) (.int .i64 (s : Int))
  rw [Nat.add_zero] at e1
  rw [e1] at hb1
  have HB1 := Lib.hid hb1
  have HL := Lib.hid hl
  have HMo := Lib.hid hm
  clear hb hb1 hl hm e1
  go_enter Tryz.func156, Tryz.ntmps156
  go_wp2
  refine ret_cell2 rfl _ rfl _ (tkCells Tk.none (.slice none 0 0)) _ (Blk.new' _ _ _ (setCell_size _ _ _)) Tryz.underlying178 rfl size_tok rfl ?_
  refine ⟨rfl, ⟨⟨hs, hok.body, fun h => ?_⟩, HMo.out, junk, HB1.out.alloc _, HL.out, h1⟩, ((Only.refl (· = p) w).setCell (p := ⟨p, mo, none⟩) (.inl rfl) _).alloc _⟩
  have : s = 0 := h
  omega

theorem keep_in {w : World} {p mo : Nat} {tp : TypeId} {pre post : List Value} {m : Ms} (h : MsAt w p mo tp pre m post) (hst : m.st ≠ 0) (c : UInt8) (z : Int) (hz : z = (c.toNat : Int)) :
    Calls Tryz.prog 159 #[.pointer (some ⟨p, mo, none⟩), .int .u8 z] w fun e w' => e = .returned (.tuple #[]) ∧ MsAt w' p mo tp pre (m.keep c) post ∧ Only (· = p) w w' := by
  subst hz
  obtain ⟨hok, hm, junk, hb, hl, h1⟩ := h
  have hL := msCells_length m junk hl
  have c4 : w.cell? ⟨p, mo + 259, none⟩ = some (.int .i64 (m.body.length : Int)) := by
    rw [hb.cell, get_mid hm 259 (by omega), msCells, List.getElem?_cons_succ, List.getElem?_cons_succ, List.getElem?_cons_succ, List.getElem?_append_right (by simp; omega)]
    simp [hl]
  have c5 : w.cell? ⟨p, mo + 260, none⟩ = some (.bool m.cut) := by
    rw [hb.cell, get_mid hm 260 (by omega), msCells, List.getElem?_cons_succ, List.getElem?_cons_succ, List.getElem?_cons_succ, List.getElem?_append_right (by simp; omega)]
    simp [hl]
  have f4 := hb.frozen (mo + 259)
  have f5 := hb.frozen (mo + 260)
  have hlt := hb.lt
  by_cases hfull : m.body.length = 256
  · have e : m.keep c = { m with cut := true } := by unfold Ms.keep; rw [if_pos hfull]
    have hj : junk = [] := List.eq_nil_of_length_eq_zero (by omega)
    subst hj
    rw [e]
    have hb1 := hb.setCell (mo + 260) (.bool true)
    rw [set_mid hm 260 (by omega)] at hb1
    have eC : (msCells m []).set 260 (.bool true) = msCells { m with cut := true } [] := by
      simp [msCells, hfull]
    rw [eC] at hb1
    have HB := Lib.hid hb1
    have HMo := Lib.hid hm
    rw [hfull] at c4
    clear hb hb1 e eC hL hm
    go_enter Tryz.func159, Tryz.ntmps159
    go_wp2
    refine bodyPost_ret (results_none rfl _ _ _) rfl ?_
    exact ⟨rfl, ⟨⟨hok.st, hok.body, fun h => absurd h hst⟩, HMo.out, [], HB.out, by simpa using hfull, by simp⟩, (Only.refl (· = p) w).setCell (p := ⟨p, mo + 260, none⟩) (.inl rfl) _⟩
  · have hlt2 : m.body.length < 256 := by have := hok.body; omega
    have e : m.keep c = { m with body := m.body ++ [c] } := by unfold Ms.keep; rw [if_neg hfull]
    obtain ⟨j0, js, rfl⟩ : ∃ j js, junk = j :: js := by
      cases junk with
      | nil => simp at hl; omega
      | cons j js => exact ⟨j, js, rfl⟩
    rw [e]
    have cn : w.cell? ⟨p, mo + 3 + m.body.length, none⟩ = some j0 := by
      rw [hb.cell, show mo + 3 + m.body.length = mo + (m.body.length + 3) from by omega, get_mid hm _ (by omega), msCells, List.getElem?_cons_succ, List.getElem?_cons_succ, List.getElem?_cons_succ, List.getElem?_append_left (by simp), List.getElem?_append_right (by simp)]
      simp
    have fn := hb.frozen (mo + 3 + m.body.length)
    have hb1 := (hb.setCell (mo + 3 + m.body.length) (.int .u8 (c.toNat : Int))).setCell (mo + 259) (.int .i64 ((m.body.length : Int) + 1))
    rw [show mo + 3 + m.body.length = mo + (3 + m.body.length) from by omega, set_mid hm _ (by omega), set_mid hm 259 (by simp; omega)] at hb1
    have eC : ((msCells m (j0 :: js)).set (3 + m.body.length) (.int .u8 (c.toNat : Int))).set 259 (.int .i64 ((m.body.length : Int) + 1)) = msCells { m with body := m.body ++ [c] } js := by
      rw [show 3 + m.body.length = m.body.length + 3 from by omega, msCells, List.set_cons_succ, List.set_cons_succ, List.set_cons_succ, List.set_cons_succ, List.set_cons_succ, List.set_cons_succ, msCells]
      simp only [List.length_cons] at hl
      congr 3
      rw [List.append_assoc, List.append_assoc, List.set_append_right _ _ (by simp), List.length_map, Nat.sub_self, List.cons_append, List.set_cons_zero, List.set_append_right _ _ (by simp; omega), List.length_map,
        show 256 - m.body.length = js.length + 1 from by omega, List.set_cons_succ, List.set_append_right _ _ (by omega), Nat.sub_self]
      simp [B8]
    rw [eC, show mo + (3 + m.body.length) = mo + 3 + m.body.length from by omega] at hb1
    have HB := Lib.hid hb1
    have H1 := Lib.hid h1
    have HL := Lib.hid hl
    have HMo := Lib.hid hm
    have hd0 : decide ((m.body.length : Int) = 256) = false := by simp; omega
    have HOK := Lib.hid hok
    obtain ⟨n, hn⟩ : ∃ n, n = m.body.length := ⟨_, rfl⟩
    rw [← hn] at c4 cn fn hd0 hlt2 HB
    have HN := Lib.hid hn
    clear hb hb1 e eC hl h1 hn hfull hok c5 f5 hL hm
    have ho : (mo + 3 + n = mo + 259) = False := by simp; omega
    have ho' : (3 + n = 259) = False := by simp; omega
    have hr : (n : Int) < 256 := by omega
    go_enter Tryz.func159, Tryz.ntmps159
    go_wp2_with fail
    refine region_tail 9 (by kernel_rfl) (by kernel_rfl) ?_
    simp only [List.take_succ_cons, List.take_zero, List.drop_succ_cons, List.drop_zero]
    repeat still_step
    refine wpStill_nil ?_
    go_wp2
    refine bodyPost_end (results_none rfl _ _ _) rfl ?_
    refine ⟨rfl, ⟨⟨HOK.out.st, ?_, fun h => absurd h hst⟩, HMo.out, js, HB.out, ?_, fun v hv => H1.out v (List.mem_cons_of_mem _ hv)⟩, (((Only.refl (· = p) w).setCell (p := ⟨p, mo + 3 + n, none⟩) (.inl rfl) _).setCell (p := ⟨p, mo + 259, none⟩) (.inl rfl) _).drew⟩
    · have := HN.out
      show (m.body ++ [c]).length ≤ 256
      rw [List.length_append, List.length_singleton]
      omega
    · have := HL.out
      show (m.body ++ [c]).length + js.length = 256
      rw [List.length_append, List.length_singleton]
      simp only [List.length_cons] at this
      omega

theorem zeros_one : ∀ v ∈ msCells Ms.zero (zeros 256), v.oneCell' = true := by
  intro v hv
  rw [zero_cells] at hv
  simp only [List.mem_append, zeros, List.mem_replicate, List.mem_cons, List.not_mem_nil, or_false] at hv
  rcases hv with (⟨_, rfl⟩ | ⟨_, rfl⟩) | rfl | rfl <;> rfl

theorem tell_in {w : World} {p mo : Nat} {tp : TypeId} {pre post : List Value} {m : Ms} (h : MsAt w p mo tp pre m post) (t : Tk) (A : Option Addr) (n c : Nat) :
    Calls Tryz.prog 157 #[.pointer (some ⟨p, mo, none⟩), .agg (tkCells t (.slice A n c)).toArray] w fun e w' =>
      e = .returned (.tuple #[.agg (tkCells t (.slice A n c)).toArray, .bool true]) ∧ MsAt w' p mo tp pre Ms.zero post ∧ Only (· = p) w w' := by
  obtain ⟨hok, hm, junk, hb, hl, h1⟩ := h
  have hlt := hb.lt
  have HL := Lib.hid (msCells_length m junk hl)
  have HB := Lib.hid hb
  have HMo := Lib.hid hm
  obtain ⟨tk, tc, to_, tb, tcut⟩ := t
  clear hok hl h1 hb hm
  go_enter Tryz.func157, Tryz.ntmps157
  have hne : p ≠ w.heap.size := by omega
  have hne2 : p ≠ w.heap.size + 1 := by omega
  generalize hcs : tkCells ⟨tk, tc, to_, tb, tcut⟩ (.slice A n c) = cs
  have hcl : cs.length = 5 := by rw [← hcs]; rfl
  have hc1 : ∀ v ∈ cs, v.oneCell' = true := by
    rw [← hcs]
    intro v hv
    simp only [tkCells, List.mem_cons, List.not_mem_nil, or_false] at hv
    rcases hv with rfl | rfl | rfl | rfl | rfl <;> rfl
  have H1 := Lib.hid hc1
  have HX := Lib.hid hcl
  clear hcl hc1 hcs
  go_wp2_with (first
    | ((with_reducible show wpList _ _ _ (⟨some 7, _, _, _, _, _⟩ :: _) _ _); refine step_build rfl 126 #[] rfl (msCells Ms.zero (zeros 256)) (by kernel_rfl) ?_)
    | ((with_reducible show wpList _ _ _ (⟨none, .store 126 _ _, _, _, _, _⟩ :: _) _ _); refine step_storeM rfl 126 (.tmp 8) (.tmp 7) rfl p mo rfl (msCells Ms.zero (zeros 256)) rfl _ pre _ post ((HB.out.alloc _).alloc _) HMo.out (by exact size_machine) (by rw [HL.out]; rfl) zeros_one ?_; intro w1 hB1 hz1 ho1; have hX := Lib.hid (((Blk.new w 178 cs).alloc _).only ho1 (fun h => hne h.symm)); have hR := Lib.hid ((Blk.new' (n := w.heap.size + 1) (w.alloc (.cells cs.toArray 178)) 178 (tkCells Tk.none (.slice none 0 0)) (by simp)).only ho1 (fun h => hne2 h.symm)))
    | ((with_reducible show wpList _ _ _ (⟨some 9, _, _, _, _, _⟩ :: _) _ _); refine wpList_load_mid rfl 178 (.tmp 3) rfl w.heap.size 0 rfl cs _ (range_of hX.out) Tryz.underlying178 rfl (by rw [HX.out]; exact size_tok) ?_)
    | ((with_reducible show wpList _ _ _ (⟨none, .store 178 _ _, _, _, _, _⟩ :: _) _ _); refine step_store rfl 178 (.tmp 4) (.tmp 9) rfl (w.heap.size + 1) rfl cs rfl _ _ hR.out (by rw [HX.out]; exact size_tok) (by rw [HX.out]; rfl) H1.out ?_; intro w2 hB2 hz2 ho2))
  refine ret_cell2 rfl _ rfl _ cs _ hB2.out Tryz.underlying178 rfl (by rw [HX.out]; exact size_tok) rfl ?_
  have hoA : Only (· = p) w w1 := (((Only.refl (· = p) w).alloc _).alloc _).trans ho1 (fun i hi => .inl hi)
  exact ⟨rfl, ⟨Ms.zero_ok, HMo.out, zeros 256, hB1.out.only ho2 hne2, rfl, fun v hv => by rw [List.eq_of_mem_replicate hv]; rfl⟩, hoA.trans ho2 (fun i hi => .inr (by omega))⟩

set_option maxHeartbeats 1000000 in
theorem sub_in {w : World} {p mo : Nat} {tp : TypeId} {pre post : List Value} {m : Ms} (h : MsAt w p mo tp pre m post) (B : Nat) (hBw : B ≤ w.heap.size) :
    Calls Tryz.prog 160 #[.pointer (some ⟨p, mo, none⟩)] w fun e w' =>
      ∃ A c, e = .returned (.agg (tkCells ⟨4, 0, m.opt, m.body, m.cut⟩ (.slice A m.body.length c)).toArray) ∧ Body w' B (.slice A m.body.length c) m.body ∧ MsAt w' p mo tp pre m post ∧ Only (fun _ => False) w w' := by
  have HM := Lib.hid h
  have c2 := h.c2
  obtain ⟨hok, hm, junk, hb, hl, h1⟩ := h
  have hL := msCells_length m junk hl
  have c4 : w.cell? ⟨p, mo + 259, none⟩ = some (.int .i64 (m.body.length : Int)) := by
    rw [hb.cell, get_mid hm 259 (by omega), msCells, List.getElem?_cons_succ, List.getElem?_cons_succ, List.getElem?_cons_succ, List.getElem?_append_right (by simp; omega)]
    simp [hl]
  have c5 : w.cell? ⟨p, mo + 260, none⟩ = some (.bool m.cut) := by
    rw [hb.cell, get_mid hm 260 (by omega), msCells, List.getElem?_cons_succ, List.getElem?_cons_succ, List.getElem?_cons_succ, List.getElem?_append_right (by simp; omega)]
    simp [hl]
  have hbody : ∀ (j : Nat) (u : Value), (m.body.map B8)[j]? = some u → w.cell? ⟨p, mo + 3 + j, none⟩ = some u := by
    intro j u hj
    have hjl := (List.getElem?_eq_some_iff.1 hj).1
    have hb8 := hok.body
    rw [List.length_map] at hjl
    rw [hb.cell, show mo + 3 + j = mo + (j + 3) from by omega, get_mid hm _ (by omega), msCells, List.getElem?_cons_succ, List.getElem?_cons_succ, List.getElem?_cons_succ, List.append_assoc, List.getElem?_append_left (by simpa using hjl)]
    exact hj
  have hlt := hb.lt
  have hne : p ≠ w.heap.size := by omega
  obtain ⟨i0, hi0, hz0, hz1, hz2⟩ := info_parts info_byte
  obtain ⟨n, hn⟩ : ∃ n, n = m.body.length := ⟨_, rfl⟩
  have hr0 := hok.body
  rw [← hn] at c4 hr0 ⊢
  have hr : (n : Int) ≤ 256 := by omega
  have HN := Lib.hid hn
  have HBd := Lib.hid hbody
  have HO := Lib.hid ((Only.refl (fun _ => False) w).alloc (.cells (tkCells Tk.none (.slice none 0 0)).toArray 178))
  have HI := Lib.hid hi0
  clear hb hl h1 hok hn hbody hi0 hm hL
  go_enter Tryz.func160, Tryz.ntmps160
  go_wp2_with fail
  refine region_tail 8 (by kernel_rfl) (by kernel_rfl) ?_
  simp only [List.take_succ_cons, List.take_zero, List.drop_succ_cons, List.drop_zero]
  repeat still_step
  refine wpStill_nil ?_
  have HR := Lib.hid ((Blk.new w 178 (tkCells Tk.none (.slice none 0 0))).drew)
  refine step_append_own rfl (.const (.slice none 0 0)) (.tmp 11) 45 rfl B 5 i0 _ 1 1 Tryz.underlying45 HI.out hz0 hz1 hz2 rfl (by omega) _ 0 [] rfl (own_nil _ _ _ _) (some ⟨p, mo + 3, none⟩) n 256 (m.body.map B8) rfl (by rw [List.length_map, HN.out]; omega)
    (fun _ => ⟨_, rfl, fun j u hj => by
      rw [show (⟨p, mo + 3, none⟩ : Addr).add j = ⟨p, mo + 3 + j, none⟩ from by unfold Addr.add; split <;> simp_all]
      exact HO.out.drew.cellv (HBd.out j u hj) (fun h => h)⟩) (by intro u hu; obtain ⟨x, _, rfl⟩ := List.mem_map.1 hu; rfl) (by omega) (by omega) (by show B ≤ (w.alloc _).heap.size; simp; omega) ?_
  intro A' c' w2 hnc hc63 hq
  have HO2 := Lib.hid (HO.out.drew.grown hq.out.2.1 (by rintro k ⟨⟩))
  have HR2 := Lib.hid (HR.out.only (Only.grown (Only.refl (fun _ => False) _) hq.out.2.1 (by rintro k ⟨⟩)) (fun h => h))
  have HB2 := Lib.hid hq.out.1
  have c2' := HO2.out.cellv c2 (fun h => h)
  have c5' := HO2.out.cellv c5 (fun h => h)
  rw [Nat.zero_add, List.nil_append] at HB2
  rw [Nat.zero_add] at hnc ⊢
  clear hq HR HO c2 c4 c5 HBd HI hz0 hz1 hz2 hr
  go_wp2_with fail
  refine region_tail 9 (by kernel_rfl) (by kernel_rfl) ?_
  simp only [List.take_succ_cons, List.take_zero, List.drop_succ_cons, List.drop_zero]
  repeat still_step
  refine wpStill_nil ?_
  refine step_build rfl 178 _ rfl (tkCells ⟨4, 0, m.opt, m.body, m.cut⟩ (.slice A' n c')) (by kernel_rfl) ?_
  refine step_store rfl 178 (.tmp 2) (.tmp 22) rfl w.heap.size rfl (tkCells ⟨4, 0, m.opt, m.body, m.cut⟩ (.slice A' n c')) rfl _ _ HR2.out.drew (by exact size_tok) rfl (by
    intro v hv
    simp only [tkCells, List.mem_cons, List.not_mem_nil, or_false] at hv
    rcases hv with rfl | rfl | rfl | rfl | rfl <;> rfl) ?_
  intro w3 hB3 hz3 ho3
  go_wp2
  have hO3 : Only (fun _ => False) w w3 := HO2.out.drew.trans ho3 (fun i hi => .inr (by omega))
  refine ret_cell1 rfl _ rfl _ _ _ hB3.out Tryz.underlying178 rfl (by exact size_tok) rfl ?_
  refine ⟨A', c', rfl, ?_, HM.out.only hO3 (fun h => h), hO3⟩
  have hN := HN.out
  subst hN
  exact own_only (w := w2.drew) HB2.out ho3 (own_ne (w := w2.drew) HB2.out HR2.out.drew (by decide))

end Go.Proofs.YtbnfhklpobephaaGreatDoor
