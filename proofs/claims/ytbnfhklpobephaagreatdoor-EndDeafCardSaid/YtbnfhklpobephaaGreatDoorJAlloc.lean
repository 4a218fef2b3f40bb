/- Several texts in one. -/
import Derived.Test.YtbnfhklpobephaaGreatDoorJBase
import Derived.Great.BuildSlice
import Derived.Deep.WholeRow
import Derived.Great.Ranges
/- A variable of a struct's type; the store of a whole struct in a region that draws its order. -/
namespace Go.Proofs.YtbnfhklpobephaaGreatDoor
open Go Go.RowKit

theorem at_add (g j : Nat) : (⟨g, 0, none⟩ : Addr).add j = ⟨g, j, none⟩ := by unfold Addr.add; split <;> simp_all

section
variable {P : Program} {ops : Array Oper} {rest : List Oper} {o : Oper} {a : Act} {w : World} {Q : Exit → Act → World → Prop}
/-- A variable of a struct's type. -/
theorem step_alloc (hgd : o.guard = none) (t : TypeId) (ho : o.op = .alloc t) (cells : List Value) (n : Nat) (hz : (P.info? t).map (fun i => (i.zero, i.size)) = some (some (.agg cells.toArray), n))
    (h : wpList P ops Q rest (a.put o.dst (.pointer (some ⟨w.heap.size, 0, none⟩))) (w.alloc (.cells cells.toArray t))) : wpList P ops Q (o :: rest) a w := by
  refine wpList_plain hgd fun K hK => ?_
  have hzz := (zero_of_info hz).1
  unfold Oper.wp execOp
  simp only [ho, Sem.run_bind, Instr.alloc, newVar, newRow, hzz, run_newObj_alloc, Sem.run_pure, Result.andThen_ok]
  exact hK _ _ h
end
/-- *p = v in a region that draws its order. -/
theorem step_storeR {P : Program} {ops : Array Oper} {o : Oper} {a : Act} {w : World} {K : Act → World → Prop} {Q : Exit → Act → World → Prop} {E : Prop} (ty : TypeId) (x y : Operand) (ho : o.op = .store ty x y) (hw : Region.wanted o (yielded ops a.tmps) = true)
    (g : Nat) (hx : a.eval x = .pointer (some ⟨g, 0, none⟩)) (cells : List Value) (hy : a.eval y = .agg cells.toArray) (t : TypeId) (old : List Value) (hg : Blk w g t old) (hi : (P.info? ty).map (·.size) = some cells.length) (hold : old.length = cells.length) (h1 : ∀ v ∈ cells, v.oneCell' = true)
    (h : ∀ w', Hid (Blk w' g t cells) → Hid (w'.heap.size = w.heap.size) → Only (· = g) w w' → K (a.put o.dst undef) w') : if Region.wanted o (yielded ops a.tmps) = true then Oper.wp P o a w K Q else E := by
  rw [if_pos hw]
  refine wp_store_row ty x y ho g cells.toArray hx hy t old.toArray hg (by simpa using hi) (by simpa using hold) (all_oneCell_toArray h1) ?_
  refine h _ (show Blk _ _ _ _ by
    unfold Blk
    exact setRow_heap w g old.toArray cells.toArray t (0, 0) hg) (show _ = _ by simp [World.setRow]) ((Only.refl (· = g) w).setRow (.inl rfl) _)
end Go.Proofs.YtbnfhklpobephaaGreatDoor
/- A struct in the midst of a block known whole: its cells, and its store. -/
namespace Go.Proofs.YtbnfhklpobephaaGreatDoor
open Go Go.RowKit
set_option maxRecDepth 100000

theorem get_mid {pre xs post : List Value} {mo : Nat} (h : pre.length = mo) (i : Nat) (hi : i < xs.length) : (pre ++ (xs ++ post))[mo + i]? = xs[i]? := by
  subst h
  rw [List.getElem?_append_right (by omega), Nat.add_sub_cancel_left, List.getElem?_append_left hi]
theorem set_mid {pre xs post : List Value} {mo : Nat} (h : pre.length = mo) (i : Nat) (hi : i < xs.length) (v : Value) : (pre ++ (xs ++ post)).set (mo + i) v = pre ++ (xs.set i v ++ post) := by
  subst h
  rw [List.set_append_right _ _ (by omega), Nat.add_sub_cancel_left, List.set_append_left _ _ hi]
section
variable {P : Program} {ops : Array Oper} {rest : List Oper} {o : Oper} {a : Act} {w : World} {Q : Exit → Act → World → Prop}
theorem Blk.setCells : ∀ (cells : List Value) {w : World} {g : Nat} {t : TypeId} {pre old post : List Value} {mo : Nat}, Blk w g t (pre ++ (old ++ post)) → pre.length = mo → old.length = cells.length → Blk (w.setCells g mo cells) g t (pre ++ (cells ++ post)) ∧ (w.setCells g mo cells).heap.size = w.heap.size ∧ Only (· = g) w (w.setCells g mo cells)
  | [], w, g, t, pre, old, post, mo, h, hp, hl => by
    obtain rfl : old = [] := List.eq_nil_of_length_eq_zero hl
    exact ⟨h, rfl, Only.refl _ _⟩
  | v :: cells, w, g, t, pre, u :: old, post, mo, h, hp, hl => by
    have h1 := h.setCell mo v
    have e : (pre ++ (u :: old ++ post)).set mo v = (pre ++ [v]) ++ (old ++ post) := by
      rw [List.set_append_right _ _ (by omega), show mo - pre.length = 0 from by omega]
      simp
    rw [e] at h1
    obtain ⟨h2, h3, h4⟩ := Blk.setCells cells h1 (mo := mo + 1) (by simp; omega) (by simpa using hl)
    rw [World.setCells]
    refine ⟨by simpa using h2, by rw [h3, setCell_size], ((Only.refl (· = g) w).setCell (p := ⟨g, mo, none⟩) (.inl rfl) v).trans h4 (fun i hi => .inl hi)⟩
/-- *p = v, a struct of so many cells, into the middle of a block known whole. -/
theorem step_storeM (hgd : o.guard = none) (ty : TypeId) (x y : Operand) (ho : o.op = .store ty x y) (g mo : Nat) (hx : a.eval x = .pointer (some ⟨g, mo, none⟩)) (cells : List Value) (hy : a.eval y = .agg cells.toArray)
    (t : TypeId) (pre old post : List Value) (hg : Blk w g t (pre ++ (old ++ post))) (hp : pre.length = mo) (hi : (P.info? ty).map (·.size) = some cells.length) (hold : old.length = cells.length) (h1 : ∀ v ∈ cells, v.oneCell' = true)
    (h : ∀ w', Hid (Blk w' g t (pre ++ (cells ++ post))) → Hid (w'.heap.size = w.heap.size) → Only (· = g) w w' → wpList P ops Q rest (a.put o.dst undef) w') : wpList P ops Q (o :: rest) a w := by
  obtain ⟨h2, h3, h4⟩ := Blk.setCells cells hg hp hold
  refine wpList_store_mid hgd ty x y ho g mo cells.toArray hx hy (fun j hj => ?_) (by simpa using hi) (all_oneCell_toArray h1) (by simpa using h _ h2 h3 h4)
  refine ⟨?_, hg.frozen _⟩
  rw [hg.cell, get_mid hp j (by rw [hold]; simpa using hj), List.getElem?_eq_getElem (by rw [hold]; simpa using hj)]
  rfl
end
end Go.Proofs.YtbnfhklpobephaaGreatDoor
/- A struct within a block: its cells from a place on. -/
namespace Go.Proofs.YtbnfhklpobephaaGreatDoor
open Go Go.RowKit
set_option maxRecDepth 100000

/-- From place mo on block p holds cs. -/
structure InB (w : World) (p : Nat) (t : TypeId) (pre post : List Value) (mo : Nat) (cs : List Value) : Prop where
  blk : Blk w p t (pre ++ (cs ++ post))
  len : pre.length = mo
section
variable {w w' : World} {p mo : Nat} {t : TypeId} {pre post cs : List Value}
theorem InB.lt (h : InB w p t pre post mo cs) : p < w.heap.size := h.blk.lt
theorem InB.cell (h : InB w p t pre post mo cs) {i : Nat} (hi : i < cs.length) : w.cell? ⟨p, mo + i, none⟩ = cs[i]? := (h.blk.cell _).trans (get_mid h.len i hi)
theorem InB.val (h : InB w p t pre post mo cs) {i : Nat} {v : Value} (hi : cs[i]? = some v) : w.cell? ⟨p, mo + i, none⟩ = some v := (h.cell (List.getElem?_eq_some_iff.1 hi).1).trans hi
theorem InB.frozen (h : InB w p t pre post mo cs) (i : Nat) : w.frozen? ⟨p, i, none⟩ = false := h.blk.frozen i
theorem InB.setCell (h : InB w p t pre post mo cs) {i : Nat} (hi : i < cs.length) (v : Value) : InB (w.setCell ⟨p, mo + i, none⟩ v) p t pre post mo (cs.set i v) := ⟨by
  have := h.blk.setCell (mo + i) v
  rwa [set_mid h.len i hi] at this, h.len⟩
theorem InB.only {S : Nat → Prop} (h : InB w p t pre post mo cs) (ho : Only S w w') (hS : ¬ S p) : InB w' p t pre post mo cs := ⟨h.blk.only ho hS, h.len⟩
theorem InB.same (h : InB w p t pre post mo cs) (ho : Only (fun _ => False) w w') : InB w' p t pre post mo cs := h.only ho (fun h => h)
theorem InB.drew (h : InB w p t pre post mo cs) : InB w.drew p t pre post mo cs := ⟨h.blk.drew, h.len⟩
theorem InB.drewN (h : InB w p t pre post mo cs) (n : Nat) : InB (w.drewN n) p t pre post mo cs := ⟨h.blk.drewN n, h.len⟩
theorem InB.alloc (h : InB w p t pre post mo cs) (o : Obj) : InB (w.alloc o) p t pre post mo cs := ⟨h.blk.alloc o, h.len⟩
theorem InB.range (h : InB w p t pre post mo cs) : w.rangeAt p mo cs := fun _ _ hj => h.val hj
/-- A piece of it. -/
theorem InB.sub {a b c : List Value} (h : InB w p t pre post mo (a ++ (b ++ c))) : InB w p t (pre ++ a) (c ++ post) (mo + a.length) b := ⟨by
  have := h.blk
  simpa [List.append_assoc] using this, by rw [List.length_append, h.len]⟩
end
end Go.Proofs.YtbnfhklpobephaaGreatDoor
/- Rows of bytes of the program's own; what of bytes can be read; the append of bytes. -/
namespace Go.Proofs.YtbnfhklpobephaaGreatDoor
open Go Go.RowKit
set_option maxRecDepth 100000
set_option maxHeartbeats 4000000

/-- A body that the program laid itself. -/
def Body (w : World) (B : Nat) (v : Value) (b : List UInt8) : Prop := w.ownsRow B 5 1 v b.length (b.map B8)
theorem nil_body (w : World) (B : Nat) : Body w B (.slice none 0 0) [] := own_nil w B _ _
/-- A body that can be read. -/
def Reads (w : World) (v : Value) (b : List UInt8) : Prop := ∃ A c, v = .slice A b.length c ∧ Src w A b.length b ∧ b.length ≤ c
theorem Body.reads {w : World} {B : Nat} {v : Value} {b : List UInt8} (h : Body w B v b) : Reads w v b := by
  obtain ⟨A, c, rfl, hle, _⟩ := own_form h
  refine ⟨A, c, rfl, ⟨rfl, fun hn => ?_⟩, hle⟩
  obtain ⟨g, hA, _, _, hc⟩ := own_at h hn
  exact ⟨_, hA, fun j x hx => by rw [at_add]; exact hc j _ (by rw [List.getElem?_map, hx]; rfl)⟩
theorem Reads.same {w w' : World} {v : Value} {b : List UInt8} (h : Reads w v b) (ho : Only (fun _ => False) w w') : Reads w' v b := by
  obtain ⟨A, c, rfl, h1, h2⟩ := h
  exact ⟨A, c, rfl, h1.only ho (fun _ _ _ h => h), h2⟩

theorem Reads.only {S : Nat → Prop} {w w' : World} {v : Value} {b : List UInt8} (h : Reads w v b) (ho : Only S w w') (hS : ∀ k, k < w.heap.size → ¬ S k) : Reads w' v b := by
  obtain ⟨A, c, rfl, h1, h2⟩ := h
  exact ⟨A, c, rfl, h1.only ho (fun hn ad e => hS _ (h1.lt hn ad e)), h2⟩
/-- A source of bytes, read on behind its first one. -/
theorem Src.tail {w : World} {A : Option Addr} {n : Nat} {x : UInt8} {xs : List UInt8} (h : Src w A n (x :: xs)) (D : Option Addr) (hD : 1 < n → ∀ ad, A = some ad → D = some (ad.add 1)) : Src w D (n - 1) xs := by
  obtain ⟨hl, hc⟩ := h
  simp only [List.length_cons] at hl
  refine ⟨by omega, fun hn => ?_⟩
  obtain ⟨ad, rfl, h2⟩ := hc (by omega)
  refine ⟨_, hD (by omega) ad rfl, fun j y hy => ?_⟩
  rw [Go.Deep.add_add, show 1 + j = j + 1 from by omega]
  exact h2 (j + 1) y (by simpa using hy)

theorem fill_tok (z : List Value) (hz : z.length = 5) (cs : List Value) (hl : cs.length = 5) : Instr.fill (fun i => some (i * 5, 5)) ((Array.range (1 * 5)).map (z.toArray[· % z.toArray.size]!)) [(0, .agg cs.toArray)] = some cs.toArray := by
  match z, hz, cs, hl with
  | [z0, z1, z2, z3, z4], _, [a, b, c, d, e], _ =>
    have e : (Array.range (1 * 5)).map (#[z0, z1, z2, z3, z4][· % #[z0, z1, z2, z3, z4].size]!) = #[z0, z1, z2, z3, z4] := by
      rw [show Array.range (1 * 5) = #[0, 1, 2, 3, 4] from by decide]
      simp
    show Instr.fill _ ((Array.range (1 * 5)).map (#[z0, z1, z2, z3, z4][· % #[z0, z1, z2, z3, z4].size]!)) _ = _
    rw [e]
    simp [Instr.fill, Value.cells]
/-- append of bytes onto a row of the call's own. -/
theorem step_bytes {ops : Array Oper} {rest : List Oper} {o : Oper} {a : Act} {w : World} {Q : Exit → Act → World → Prop} (hgd : o.guard = none) (sx x : Operand) (ho : o.op = .call { callee := .builtin .append, args := #[sx, x], argTypes := #[45, 45] })
    (B : Nat) (A : Option Addr) (n c : Nat) (xs : List UInt8) (hs : a.eval sx = .slice A n c) (hb : Body w B (.slice A n c) xs) (hn : n = xs.length) (S : Option Addr) (m c2 : Nat) (ys : List UInt8) (hx : a.eval x = .slice S m c2) (hsrc : Src w S m ys) (hbd : n + m ≤ 1048576) (hB : B ≤ w.heap.size)
    (h : ∀ A' c' w', Hid (Body w' B (.slice A' (n + m) c') (xs ++ ys)) → Hid (Only (fun i => B ≤ i) w w') → wpList Tryz.prog ops Q rest (a.put o.dst (.slice A' (n + m) c')) w') :
    wpList Tryz.prog ops Q (o :: rest) a w := by
  subst hn
  obtain ⟨i, hi, hz, h1, h2⟩ := info_parts info_byte
  refine step_append_own hgd sx x 45 ho B 5 i _ 1 1 Tryz.underlying45 hi hz h1 h2 rfl (by omega) _ xs.length (xs.map B8) hs hb S m c2 (ys.map B8) hx (by rw [List.length_map, hsrc.1, Nat.mul_one]) (fun hm => ?_) (fun u hu => by obtain ⟨z, _, rfl⟩ := List.mem_map.1 hu; rfl) (by omega) (by omega) hB ?_
  · obtain ⟨ad, e, hc⟩ := hsrc.2 hm
    refine ⟨ad, e, fun j u hu => ?_⟩
    rw [List.getElem?_map] at hu
    cases hy : ys[j]? with
    | none => rw [hy] at hu; cases hu
    | some y =>
      rw [hy] at hu
      injection hu with hu
      subst hu
      exact hc j y hy
  · intro A' c' w' _ _ hq
    have hq1 := hq.out.1
    have hq2 := hq.out.2.1
    refine h A' c' w' (show Body _ _ _ _ from ?_) (show Only _ _ _ from Only.grown (Only.refl _ _) hq2 (fun k hk => .inl (own_lt hb k hk).1))
    unfold Body
    rw [List.length_append, List.map_append, hsrc.1]
    exact hq1

theorem Body.form {w : World} {B : Nat} {v : Value} {b : List UInt8} (h : Body w B v b) : ∃ A c, v = .slice A b.length c ∧ b.length ≤ c ∧ c ≤ 9223372036854775807 := own_form h
theorem Body.same {w w' : World} {B : Nat} {v : Value} {b : List UInt8} (h : Body w B v b) (ho : Only (fun _ => False) w w') : Body w' B v b := own_same h ho
theorem Body.src {w : World} {B : Nat} {A : Option Addr} {n c : Nat} {b : List UInt8} (h : Body w B (.slice A n c) b) (hn : n = b.length) : Src w A n b := by
  obtain ⟨A', c', e, h1, _⟩ := h.reads
  injection e with e1 e2 e3
  subst e1 hn
  exact h1

theorem len_snoc {α : Type} (l : List α) (x : α) : (l ++ [x]).length = l.length + 1 := by simp
end Go.Proofs.YtbnfhklpobephaaGreatDoor
