/- Several texts in one. -/
import Derived.Test.YtbnfhklpobephaaGreatDoorJBase
import Derived.Great.BuildSlice
import Derived.Deep.WholeRow
import Derived.Great.Ranges
import Derived.Laws.Concat
import Derived.ProofKit
import Derived.OpenShut
import Derived.LaidMore
import Derived.Stop.Joined
import Derived.Deep.DeepHandedRow
import Derived.Deep.DeepWitnessRowRef
import Derived.Deep.Slices
import Derived.Deep.Strs
/- Several texts in one. -/
/- A variable of a struct's type; the store of a whole struct in a region that draws its order. -/
namespace Go.Proofs.YtbnfhklpobephaaGreatDoor
open Go Go.RowKit

theorem at_add (g j : Nat) : (⟨g, 0, none⟩ : Addr).add j = ⟨g, j, none⟩ := by unfold Addr.add; split <;> simp_all

section
variable {P : Program} {ops : Array Oper} {rest : List Oper} {o : Oper} {a : Act} {w : World} {Q : Exit → Act → World → Prop}
/-- A variable of a struct's type. -/
theorem step_alloc (hgd : o.guard = none) (t : TypeId) (ho : o.op = .alloc t) (cells : List Value) (n : Nat) (hz : (P.info? t).map (fun i => (i.zero, i.size)) = some (some (.agg cells.toArray), n))
    (h : wpList P ops Q rest (a.put o.dst (.pointer (some ⟨w.heap.size, 0, none⟩))) (w.alloc (.cells cells.toArray t))) : wpList P ops Q (o :: rest) a w := by
  refine wpList_plain hgd fun K hK => ?_
  have hzz := (zero_of_info hz).1
  unfold Oper.wp execOp
  simp only [ho, Sem.run_bind, Instr.alloc, newVar, newRow, hzz, run_newObj_alloc, Sem.run_pure, Result.andThen_ok]
  exact hK _ _ h
end
/-- *p = v in a region that draws its order. -/
theorem step_storeR {P : Program} {ops : Array Oper} {o : Oper} {a : Act} {w : World} {K : Act → World → Prop} {Q : Exit → Act → World → Prop} {E : Prop} (ty : TypeId) (x y : Operand) (ho : o.op = .store ty x y) (hw : Region.wanted o (yielded ops a.tmps) = true)
    (g : Nat) (hx : a.eval x = .pointer (some ⟨g, 0, none⟩)) (cells : List Value) (hy : a.eval y = .agg cells.toArray) (t : TypeId) (old : List Value) (hg : Blk w g t old) (hi : (P.info? ty).map (·.size) = some cells.length) (hold : old.length = cells.length) (h1 : ∀ v ∈ cells, v.oneCell' = true)
    (h : ∀ w', Hid (Blk w' g t cells) → Hid (w'.heap.size = w.heap.size) → Only (· = g) w w' → K (a.put o.dst undef) w') : if Region.wanted o (yielded ops a.tmps) = true then Oper.wp P o a w K Q else E := by
  rw [if_pos hw]
  refine wp_store_row ty x y ho g cells.toArray hx hy t old.toArray hg (by simpa using hi) (by simpa using hold) (all_oneCell_toArray h1) ?_
  refine h _ (show Blk _ _ _ _ by
    unfold Blk
    exact setRow_heap w g old.toArray cells.toArray t (0, 0) hg) (show _ = _ by simp [World.setRow]) ((Only.refl (· = g) w).setRow (.inl rfl) _)
end Go.Proofs.YtbnfhklpobephaaGreatDoor
/- A struct in the midst of a block known whole: its cells, and its store. -/
namespace Go.Proofs.YtbnfhklpobephaaGreatDoor
open Go Go.RowKit
set_option maxRecDepth 100000

theorem get_mid {pre xs post : List Value} {mo : Nat} (h : pre.length = mo) (i : Nat) (hi : i < xs.length) : (pre ++ (xs ++ post))[mo + i]? = xs[i]? := by
  subst h
  rw [List.getElem?_append_right (by omega), Nat.add_sub_cancel_left, List.getElem?_append_left hi]
theorem set_mid {pre xs post : List Value} {mo : Nat} (h : pre.length = mo) (i : Nat) (hi : i < xs.length) (v : Value) : (pre ++ (xs ++ post)).set (mo + i) v = pre ++ (xs.set i v ++ post) := by
  subst h
  rw [List.set_append_right _ _ (by omega), Nat.add_sub_cancel_left, List.set_append_left _ _ hi]
section
variable {P : Program} {ops : Array Oper} {rest : List Oper} {o : Oper} {a : Act} {w : World} {Q : Exit → Act → World → Prop}
theorem Blk.setCells : ∀ (cells : List Value) {w : World} {g : Nat} {t : TypeId} {pre old post : List Value} {mo : Nat}, Blk w g t (pre ++ (old ++ post)) → pre.length = mo → old.length = cells.length → Blk (w.setCells g mo cells) g t (pre ++ (cells ++ post)) ∧ (w.setCells g mo cells).heap.size = w.heap.size ∧ Only (· = g) w (w.setCells g mo cells)
  | [], w, g, t, pre, old, post, mo, h, hp, hl => by
    obtain rfl : old = [] := List.eq_nil_of_length_eq_zero hl
    exact ⟨h, rfl, Only.refl _ _⟩
  | v :: cells, w, g, t, pre, u :: old, post, mo, h, hp, hl => by
    have h1 := h.setCell mo v
    have e : (pre ++ (u :: old ++ post)).set mo v = (pre ++ [v]) ++ (old ++ post) := by
      rw [List.set_append_right _ _ (by omega), show mo - pre.length = 0 from by omega]
      simp
    rw [e] at h1
    obtain ⟨h2, h3, h4⟩ := Blk.setCells cells h1 (mo := mo + 1) (by simp; omega) (by simpa using hl)
    rw [World.setCells]
    refine ⟨by simpa using h2, by rw [h3, setCell_size], ((Only.refl (· = g) w).setCell (p := ⟨g, mo, none⟩) (.inl rfl) v).trans h4 (fun i hi => .inl hi)⟩
/-- *p = v, a struct of so many cells, into the middle of a block known whole. -/
theorem step_storeM (hgd : o.guard = none) (ty : TypeId) (x y : Operand) (ho : o.op = .store ty x y) (g mo : Nat) (hx : a.eval x = .pointer (some ⟨g, mo, none⟩)) (cells : List Value) (hy : a.eval y = .agg cells.toArray)
    (t : TypeId) (pre old post : List Value) (hg : Blk w g t (pre ++ (old ++ post))) (hp : pre.length = mo) (hi : (P.info? ty).map (·.size) = some cells.length) (hold : old.length = cells.length) (h1 : ∀ v ∈ cells, v.oneCell' = true)
    (h : ∀ w', Hid (Blk w' g t (pre ++ (cells ++ post))) → Hid (w'.heap.size = w.heap.size) → Only (· = g) w w' → wpList P ops Q rest (a.put o.dst undef) w') : wpList P ops Q (o :: rest) a w := by
  obtain ⟨h2, h3, h4⟩ := Blk.setCells cells hg hp hold
  refine wpList_store_mid hgd ty x y ho g mo cells.toArray hx hy (fun j hj => ?_) (by simpa using hi) (all_oneCell_toArray h1) (by simpa using h _ h2 h3 h4)
  refine ⟨?_, hg.frozen _⟩
  rw [hg.cell, get_mid hp j (by rw [hold]; simpa using hj), List.getElem?_eq_getElem (by rw [hold]; simpa using hj)]
  rfl
end
end Go.Proofs.YtbnfhklpobephaaGreatDoor
/- A struct within a block: its cells from a place on. -/
namespace Go.Proofs.YtbnfhklpobephaaGreatDoor
open Go Go.RowKit
set_option maxRecDepth 100000

/-- From place mo on block p holds cs. -/
structure InB (w : World) (p : Nat) (t : TypeId) (pre post : List Value) (mo : Nat) (cs : List Value) : Prop where
  blk : Blk w p t (pre ++ (cs ++ post))
  len : pre.length = mo
section
variable {w w' : World} {p mo : Nat} {t : TypeId} {pre post cs : List Value}
theorem InB.lt (h : InB w p t pre post mo cs) : p < w.heap.size := h.blk.lt
theorem InB.cell (h : InB w p t pre post mo cs) {i : Nat} (hi : i < cs.length) : w.cell? ⟨p, mo + i, none⟩ = cs[i]? := (h.blk.cell _).trans (get_mid h.len i hi)
theorem InB.val (h : InB w p t pre post mo cs) {i : Nat} {v : Value} (hi : cs[i]? = some v) : w.cell? ⟨p, mo + i, none⟩ = some v := (h.cell (List.getElem?_eq_some_iff.1 hi).1).trans hi
theorem InB.frozen (h : InB w p t pre post mo cs) (i : Nat) : w.frozen? ⟨p, i, none⟩ = false := h.blk.frozen i
theorem InB.setCell (h : InB w p t pre post mo cs) {i : Nat} (hi : i < cs.length) (v : Value) : InB (w.setCell ⟨p, mo + i, none⟩ v) p t pre post mo (cs.set i v) := ⟨by
  have := h.blk.setCell (mo + i) v
  rwa [set_mid h.len i hi] at this, h.len⟩
theorem InB.only {S : Nat → Prop} (h : InB w p t pre post mo cs) (ho : Only S w w') (hS : ¬ S p) : InB w' p t pre post mo cs := ⟨h.blk.only ho hS, h.len⟩
theorem InB.same (h : InB w p t pre post mo cs) (ho : Only (fun _ => False) w w') : InB w' p t pre post mo cs := h.only ho (fun h => h)
theorem InB.drew (h : InB w p t pre post mo cs) : InB w.drew p t pre post mo cs := ⟨h.blk.drew, h.len⟩
theorem InB.drewN (h : InB w p t pre post mo cs) (n : Nat) : InB (w.drewN n) p t pre post mo cs := ⟨h.blk.drewN n, h.len⟩
theorem InB.alloc (h : InB w p t pre post mo cs) (o : Obj) : InB (w.alloc o) p t pre post mo cs := ⟨h.blk.alloc o, h.len⟩
theorem InB.range (h : InB w p t pre post mo cs) : w.rangeAt p mo cs := fun _ _ hj => h.val hj
/-- A piece of it. -/
theorem InB.sub {a b c : List Value} (h : InB w p t pre post mo (a ++ (b ++ c))) : InB w p t (pre ++ a) (c ++ post) (mo + a.length) b := ⟨by
  have := h.blk
  simpa [List.append_assoc] using this, by rw [List.length_append, h.len]⟩
end
end Go.Proofs.YtbnfhklpobephaaGreatDoor
/- Rows of bytes of the program's own; what of bytes can be read; the append of bytes. -/
namespace Go.Proofs.YtbnfhklpobephaaGreatDoor
open Go Go.RowKit
set_option maxRecDepth 100000
set_option maxHeartbeats 4000000

/-- A body that the program laid itself. -/
def Body (w : World) (B : Nat) (v : Value) (b : List UInt8) : Prop := w.ownsRow B 5 1 v b.length (b.map B8)
theorem nil_body (w : World) (B : Nat) : Body w B (.slice none 0 0) [] := own_nil w B _ _
/-- A body that can be read. -/
def Reads (w : World) (v : Value) (b : List UInt8) : Prop := ∃ A c, v = .slice A b.length c ∧ Src w A b.length b ∧ b.length ≤ c
theorem Body.reads {w : World} {B : Nat} {v : Value} {b : List UInt8} (h : Body w B v b) : Reads w v b := by
  obtain ⟨A, c, rfl, hle, _⟩ := own_form h
  refine ⟨A, c, rfl, ⟨rfl, fun hn => ?_⟩, hle⟩
  obtain ⟨g, hA, _, _, hc⟩ := own_at h hn
  exact ⟨_, hA, fun j x hx => by rw [at_add]; exact hc j _ (by rw [List.getElem?_map, hx]; rfl)⟩
theorem Reads.same {w w' : World} {v : Value} {b : List UInt8} (h : Reads w v b) (ho : Only (fun _ => False) w w') : Reads w' v b := by
  obtain ⟨A, c, rfl, h1, h2⟩ := h
  exact ⟨A, c, rfl, h1.only ho (fun _ _ _ h => h), h2⟩

theorem Reads.only {S : Nat → Prop} {w w' : World} {v : Value} {b : List UInt8} (h : Reads w v b) (ho : Only S w w') (hS : ∀ k, k < w.heap.size → ¬ S k) : Reads w' v b := by
  obtain ⟨A, c, rfl, h1, h2⟩ := h
  exact ⟨A, c, rfl, h1.only ho (fun hn ad e => hS _ (h1.lt hn ad e)), h2⟩
/-- A source of bytes, read on behind its first one. -/
theorem Src.tail {w : World} {A : Option Addr} {n : Nat} {x : UInt8} {xs : List UInt8} (h : Src w A n (x :: xs)) (D : Option Addr) (hD : 1 < n → ∀ ad, A = some ad → D = some (ad.add 1)) : Src w D (n - 1) xs := by
  obtain ⟨hl, hc⟩ := h
  simp only [List.length_cons] at hl
  refine ⟨by omega, fun hn => ?_⟩
  obtain ⟨ad, rfl, h2⟩ := hc (by omega)
  refine ⟨_, hD (by omega) ad rfl, fun j y hy => ?_⟩
  rw [Go.Deep.add_add, show 1 + j = j + 1 from by omega]
  exact h2 (j + 1) y (by simpa using hy)

theorem fill_tok (z : List Value) (hz : z.length = 5) (cs : List Value) (hl : cs.length = 5) : Instr.fill (fun i => some (i * 5, 5)) ((Array.range (1 * 5)).map (z.toArray[· % z.toArray.size]!)) [(0, .agg cs.toArray)] = some cs.toArray := by
  match z, hz, cs, hl with
  | [z0, z1, z2, z3, z4], _, [a, b, c, d, e], _ =>
    have e : (Array.range (1 * 5)).map (#[z0, z1, z2, z3, z4][· % #[z0, z1, z2, z3, z4].size]!) = #[z0, z1, z2, z3, z4] := by
      rw [show Array.range (1 * 5) = #[0, 1, 2, 3, 4] from by decide]
      simp
    show Instr.fill _ ((Array.range (1 * 5)).map (#[z0, z1, z2, z3, z4][· % #[z0, z1, z2, z3, z4].size]!)) _ = _
    rw [e]
    simp [Instr.fill, Value.cells]
/-- append of bytes onto a row of the call's own. -/
theorem step_bytes {ops : Array Oper} {rest : List Oper} {o : Oper} {a : Act} {w : World} {Q : Exit → Act → World → Prop} (hgd : o.guard = none) (sx x : Operand) (ho : o.op = .call { callee := .builtin .append, args := #[sx, x], argTypes := #[45, 45] })
    (B : Nat) (A : Option Addr) (n c : Nat) (xs : List UInt8) (hs : a.eval sx = .slice A n c) (hb : Body w B (.slice A n c) xs) (hn : n = xs.length) (S : Option Addr) (m c2 : Nat) (ys : List UInt8) (hx : a.eval x = .slice S m c2) (hsrc : Src w S m ys) (hbd : n + m ≤ 1048576) (hB : B ≤ w.heap.size)
    (h : ∀ A' c' w', Hid (Body w' B (.slice A' (n + m) c') (xs ++ ys)) → Hid (Only (fun i => B ≤ i) w w') → wpList Tryz.prog ops Q rest (a.put o.dst (.slice A' (n + m) c')) w') :
    wpList Tryz.prog ops Q (o :: rest) a w := by
  subst hn
  obtain ⟨i, hi, hz, h1, h2⟩ := info_parts info_byte
  refine step_append_own hgd sx x 45 ho B 5 i _ 1 1 Tryz.underlying45 hi hz h1 h2 rfl (by omega) _ xs.length (xs.map B8) hs hb S m c2 (ys.map B8) hx (by rw [List.length_map, hsrc.1, Nat.mul_one]) (fun hm => ?_) (fun u hu => by obtain ⟨z, _, rfl⟩ := List.mem_map.1 hu; rfl) (by omega) (by omega) hB ?_
  · obtain ⟨ad, e, hc⟩ := hsrc.2 hm
    refine ⟨ad, e, fun j u hu => ?_⟩
    rw [List.getElem?_map] at hu
    cases hy : ys[j]? with
    | none => rw [hy] at hu; cases hu
    | some y =>
      rw [hy] at hu
      injection hu with hu
      subst hu
      exact hc j y hy
  · intro A' c' w' _ _ hq
    have hq1 := hq.out.1
    have hq2 := hq.out.2.1
    refine h A' c' w' (show Body _ _ _ _ from ?_) (show Only _ _ _ from Only.grown (Only.refl _ _) hq2 (fun k hk => .inl (own_lt hb k hk).1))
    unfold Body
    rw [List.length_append, List.map_append, hsrc.1]
    exact hq1

theorem Body.form {w : World} {B : Nat} {v : Value} {b : List UInt8} (h : Body w B v b) : ∃ A c, v = .slice A b.length c ∧ b.length ≤ c ∧ c ≤ 9223372036854775807 := own_form h
theorem Body.same {w w' : World} {B : Nat} {v : Value} {b : List UInt8} (h : Body w B v b) (ho : Only (fun _ => False) w w') : Body w' B v b := own_same h ho
theorem Body.src {w : World} {B : Nat} {A : Option Addr} {n c : Nat} {b : List UInt8} (h : Body w B (.slice A n c) b) (hn : n = b.length) : Src w A n b := by
  obtain ⟨A', c', e, h1, _⟩ := h.reads
  injection e with e1 e2 e3
  subst e1 hn
  exact h1

theorem len_snoc {α : Type} (l : List α) (x : α) : (l ++ [x]).length = l.length + 1 := by simp
end Go.Proofs.YtbnfhklpobephaaGreatDoor
/- Several texts in one. -/
/- Two texts, one behind the other. -/
namespace Go.Proofs.YtbnfhklpobephaaGreatDoor
open Go Go.RowKit

theorem sum_texts {P : Program} {w : World} (x y z : List UInt8) (h : x ++ y = z) (hl : x.length + y.length ≤ 9223372036854775807) :
    (Op.stringOp .add (ByteArray.mk x.toArray) (ByteArray.mk y.toArray)).run P w = .ok (.string (ByteArray.mk z.toArray)) w := by
  subst h
  have := run_string_add_sum (P := P) w (ByteArray.mk x.toArray) (ByteArray.mk y.toArray) (by simpa [ByteArray.size] using hl)
  rw [this, ByteArray.mk_append_mk]
end Go.Proofs.YtbnfhklpobephaaGreatDoor
/- Strings as rows of bytes: by index, by parts, one behind the other; the text of bytes in every world that only grew; pieces of bytes. -/
namespace Go.Proofs.YtbnfhklpobephaaGreatDoor
open Go Go.RowKit
set_option maxRecDepth 100000

theorem str_get {s : List UInt8} {k : Nat} {x : UInt8} (h : s[k]? = some x) (hp : k < (ByteArray.mk s.toArray).size) : (ByteArray.mk s.toArray)[k]'hp = x := by
  have := (List.getElem?_eq_some_iff.1 h).2
  show s.toArray[k]'hp = x
  simpa using this
theorem str_two (f g : List UInt8) : (ByteArray.mk f.toArray) ++ (ByteArray.mk g.toArray) = ⟨(f ++ g).toArray⟩ := by
  apply ByteArray.ext
  simp
theorem str_cut (s : List UInt8) (a b : Nat) : (ByteArray.mk s.toArray).extract a b = ⟨((s.take b).drop a).toArray⟩ := by
  apply ByteArray.ext
  simp [List.extract_eq_take_drop, List.drop_take]
theorem str_snoc {f s : List UInt8} {k : Nat} {x : UInt8} (h : s[k]? = some x) : (ByteArray.mk f.toArray) ++ (ByteArray.mk s.toArray).extract k (k + 1) = ⟨(f ++ [x]).toArray⟩ := by
  rw [str_cut, str_two]
  congr 3
  obtain ⟨hk, hx⟩ := List.getElem?_eq_some_iff.1 h
  rw [List.drop_take, Nat.add_sub_cancel_left, List.drop_eq_getElem_cons hk, hx]
  rfl
theorem str_take (f : List UInt8) (n : Nat) : (ByteArray.mk f.toArray).extract 0 n = ⟨(f.take n).toArray⟩ := by
  rw [str_cut, List.drop_zero]

theorem take_snoc {α : Type} {l : List α} {k : Nat} {x : α} (h : l[k]? = some x) : l.take (k + 1) = l.take k ++ [x] := by
  rw [List.take_add_one, h]
  rfl

/-- A number as a byte. -/
def b8 (z : Int) : UInt8 := UInt8.ofNat z.toNat
theorem b8_nat {z : Int} (h0 : 0 ≤ z) (h1 : z ≤ 255) : (b8 z).toNat = z.toNat := by
  unfold b8
  rw [UInt8.toNat_ofNat']
  omega
theorem b8_int {z : Int} (h0 : 0 ≤ z) (h1 : z ≤ 255) : ((b8 z).toNat : Int) = z := by
  rw [b8_nat h0 h1]
  omega

theorem text_new (w : World) (xs : List UInt8) (n : Nat) (hn : xs.length = n) (cs : Array Value) (hc : cs = (xs.map B8).toArray) (g : Nat) (hg : w.heap.size = g) :
    (convert 45 9 (.slice (some ⟨g, 0, none⟩) n n)).run Tryz.prog (w.alloc (.cells cs 5)) = .ok (.string ⟨xs.toArray⟩) (w.alloc (.cells cs 5)) := by
  subst hg
  exact text_of (P := Tryz.prog) (src_new w xs cs 5 (0, 0) n hc hn) n 45 9 5 Tryz.underlying45 Tryz.underlying5 Tryz.underlying9

/-- string(b) of bytes of the call's own, in every world that only grew. -/
def Texts (w : World) (A : Option Addr) (n c : Nat) (b : List UInt8) : Prop := ∀ W : World, Only (fun _ => False) w W → (convert 45 9 (.slice A n c)).run Tryz.prog W = .ok (.string ⟨b.toArray⟩) W
theorem Src.texts {w : World} {A : Option Addr} {n : Nat} {b : List UInt8} (h : Src w A n b) (c : Nat) : Texts w A n c b := fun _ ho =>
  text_of (P := Tryz.prog) (h.only ho (fun _ _ _ h => h)) c 45 9 5 Tryz.underlying45 Tryz.underlying5 Tryz.underlying9
theorem Body.texts {w : World} {B : Nat} {A : Option Addr} {n c : Nat} {b : List UInt8} (h : Body w B (.slice A n c) b) (hn : n = b.length) : Texts w A n c b := (h.src hn).texts c

theorem Src.take {w : World} {A : Option Addr} {n : Nat} {xs : List UInt8} (h : Src w A n xs) (k : Nat) (hk : k ≤ n) : Src w A k (xs.take k) := by
  refine ⟨by rw [List.length_take, h.1]; omega, fun h0 => ?_⟩
  obtain ⟨ad, e, hc⟩ := h.2 (by omega)
  refine ⟨ad, e, fun j x hx => ?_⟩
  rw [List.getElem?_take] at hx
  split at hx
  · exact hc j x hx
  · cases hx
/-- A piece of bytes. -/
theorem Src.piece {w : World} {A : Option Addr} {n : Nat} {xs : List UInt8} (h : Src w A n xs) (a b : Nat) (hab : a ≤ b) (hb : b ≤ n) (D : Option Addr) (hD : a < b → ∀ ad, A = some ad → D = some (ad.add a)) : Src w D (b - a) ((xs.take b).drop a) := by
  have hl := h.1
  refine ⟨by rw [List.length_drop, List.length_take]; omega, fun h0 => ?_⟩
  obtain ⟨ad, e, hc⟩ := h.2 (by omega)
  refine ⟨_, hD (by omega) ad e, fun j x hx => ?_⟩
  rw [List.getElem?_drop, List.getElem?_take] at hx
  split at hx
  · rw [Go.Deep.add_add]
    exact hc (a + j) x hx
  · cases hx

theorem Blk.grown {w w' : World} {g : Nat} {t : TypeId} {cs : List Value} {row : Option Nat} (h : Blk w g t cs) (hg : w.grownBy w' row) (hne : row ≠ some g) : Blk w' g t cs := (hg.block g h.lt (fun e => hne e.symm)).trans h
/-- append of bytes onto a row of the call's own: nothing else turns. -/
theorem step_bytesG {ops : Array Oper} {rest : List Oper} {o : Oper} {a : Act} {w : World} {Q : Exit → Act → World → Prop} (hgd : o.guard = none) (sx x : Operand) (ho : o.op = .call { callee := .builtin .append, args := #[sx, x], argTypes := #[45, 45] })
    (B : Nat) (A : Option Addr) (n c : Nat) (xs : List UInt8) (hs : a.eval sx = .slice A n c) (hb : Body w B (.slice A n c) xs) (hn : n = xs.length) (S : Option Addr) (m c2 : Nat) (ys : List UInt8) (hx : a.eval x = .slice S m c2) (hsrc : Src w S m ys) (hbd : n + m ≤ 1048576) (hB : B ≤ w.heap.size)
    (h : ∀ A' c' w', Hid (Body w' B (.slice A' (n + m) c') (xs ++ ys)) → Hid (w.grownBy w' (Value.slice A n c).ownBlock) → wpList Tryz.prog ops Q rest (a.put o.dst (.slice A' (n + m) c')) w') :
    wpList Tryz.prog ops Q (o :: rest) a w := by
  subst hn
  obtain ⟨i, hi, hz, h1, h2⟩ := info_parts info_byte
  refine step_append_own hgd sx x 45 ho B 5 i _ 1 1 Tryz.underlying45 hi hz h1 h2 rfl (by omega) _ xs.length (xs.map B8) hs hb S m c2 (ys.map B8) hx (by rw [List.length_map, hsrc.1, Nat.mul_one]) (fun hm => ?_) (fun u hu => by obtain ⟨z, _, rfl⟩ := List.mem_map.1 hu; rfl) (by omega) (by omega) hB ?_
  · obtain ⟨ad, e, hc⟩ := hsrc.2 hm
    refine ⟨ad, e, fun j u hu => ?_⟩
    rw [List.getElem?_map] at hu
    cases hy : ys[j]? with
    | none => rw [hy] at hu; cases hu
    | some y =>
      rw [hy] at hu
      injection hu with hu
      subst hu
      exact hc j y hy
  · intro A' c' w' _ _ hq
    have hq1 := hq.out.1
    have hq2 := hq.out.2.1
    refine h A' c' w' (show Body _ _ _ _ from ?_) hq2
    unfold Body
    rw [List.length_append, List.map_append, hsrc.1]
    exact hq1

/-- .. and its row is the same, or a new one. -/
theorem step_bytesS {ops : Array Oper} {rest : List Oper} {o : Oper} {a : Act} {w : World} {Q : Exit → Act → World → Prop} (hgd : o.guard = none) (sx x : Operand) (ho : o.op = .call { callee := .builtin .append, args := #[sx, x], argTypes := #[45, 45] })
    (B : Nat) (A : Option Addr) (n c : Nat) (xs : List UInt8) (hs : a.eval sx = .slice A n c) (hb : Body w B (.slice A n c) xs) (hn : n = xs.length) (S : Option Addr) (m c2 : Nat) (ys : List UInt8) (hx : a.eval x = .slice S m c2) (hsrc : Src w S m ys) (hbd : n + m ≤ 1048576) (hB : B ≤ w.heap.size)
    (h : ∀ A' c' w', Hid (Body w' B (.slice A' (n + m) c') (xs ++ ys)) → Hid (w.grownBy w' (Value.slice A n c).ownBlock) → Hid (∀ k, (Value.slice A' (n + m) c').ownBlock = some k → (Value.slice A n c).ownBlock = some k ∨ w.heap.size ≤ k) → wpList Tryz.prog ops Q rest (a.put o.dst (.slice A' (n + m) c')) w') :
    wpList Tryz.prog ops Q (o :: rest) a w := by
  subst hn
  obtain ⟨i, hi, hz, h1, h2⟩ := info_parts info_byte
  refine step_append_own hgd sx x 45 ho B 5 i _ 1 1 Tryz.underlying45 hi hz h1 h2 rfl (by omega) _ xs.length (xs.map B8) hs hb S m c2 (ys.map B8) hx (by rw [List.length_map, hsrc.1, Nat.mul_one]) (fun hm => ?_) (fun u hu => by obtain ⟨z, _, rfl⟩ := List.mem_map.1 hu; rfl) (by omega) (by omega) hB ?_
  · obtain ⟨ad, e, hc⟩ := hsrc.2 hm
    refine ⟨ad, e, fun j u hu => ?_⟩
    rw [List.getElem?_map] at hu
    cases hy : ys[j]? with
    | none => rw [hy] at hu; cases hu
    | some y =>
      rw [hy] at hu
      injection hu with hu
      subst hu
      exact hc j y hy
  · intro A' c' w' _ _ hq
    have hq1 := hq.out.1
    refine h A' c' w' (show Body _ _ _ _ from ?_) hq.out.2.1 hq.out.2.2
    unfold Body
    rw [List.length_append, List.map_append, hsrc.1]
    exact hq1

/-- .. at a step of a region that draws its order. -/
theorem step_bytesR {ops : Array Oper} {o : Oper} {a : Act} {w : World} {K : Act → World → Prop} {Q : Exit → Act → World → Prop} {E : Prop} (hgd : o.guard = none) (sx x : Operand) (ho : o.op = .call { callee := .builtin .append, args := #[sx, x], argTypes := #[45, 45] })
    (B : Nat) (A : Option Addr) (n c : Nat) (xs : List UInt8) (hs : a.eval sx = .slice A n c) (hb : Body w B (.slice A n c) xs) (hn : n = xs.length) (S : Option Addr) (m c2 : Nat) (ys : List UInt8) (hx : a.eval x = .slice S m c2) (hm : 0 < m) (hsrc : Src w S m ys) (hbd : n + m ≤ 1048576) (hB : B ≤ w.heap.size)
    (h : ∀ A' c' w', Hid (Body w' B (.slice A' (n + m) c') (xs ++ ys)) → Hid (w.grownBy w' (Value.slice A n c).ownBlock) → K (a.put o.dst (.slice A' (n + m) c')) w') :
    if Region.wanted o (yielded ops a.tmps) = true then Oper.wp Tryz.prog o a w K Q else E := by
  subst hn
  obtain ⟨i, hi, hz, h1, h2⟩ := info_parts info_byte
  obtain ⟨ad, rfl, hc⟩ := hsrc.2 hm
  refine step_append_lies w hgd sx x 45 ho B 5 i _ 1 1 Tryz.underlying45 hi hz h1 h2 rfl (by omega) _ xs.length (xs.map B8) hs hb ad m c2 (ys.map B8) hx (by rw [List.length_map, hsrc.1, Nat.mul_one]) (fun j u hu => ?_) (fun u hu => by obtain ⟨z, _, rfl⟩ := List.mem_map.1 hu; rfl) hm (by unfold maxLen; omega) (by omega) hB _ rfl ?_
  · rw [List.getElem?_map] at hu
    cases hy : ys[j]? with
    | none => rw [hy] at hu; cases hu
    | some y =>
      rw [hy] at hu
      injection hu with hu
      subst hu
      exact hc j y hy
  · intro g cap w' hq1 hq2 _ _
    refine h _ cap w' (show Body _ _ _ _ from ?_) hq2
    unfold Body
    rw [List.length_append, List.map_append, hsrc.1]
    exact hq1
/-- The first byte lies where the slice begins. -/
theorem Src.head {w : World} {A : Option Addr} {n : Nat} {r : List UInt8} {c : UInt8} (hs : Src w A n (c :: r)) : ∃ ad, A = some ad ∧ w.cell? ad = some (.int .u8 (c.toNat : Int)) ∧ n = r.length + 1 := by
  have hl := hs.1
  rw [List.length_cons] at hl
  obtain ⟨ad, rfl, hx⟩ := hs.2 (by omega)
  have c0 := hx 0 c rfl
  rw [show ad.add 0 = ad from by simp [Addr.add]] at c0
  exact ⟨ad, rfl, c0, hl.symm⟩
end Go.Proofs.YtbnfhklpobephaaGreatDoor
/- From a walk that ends in true, and turns nothing that was there, to what a law's row asks: the same for every law. -/
namespace Go.Proofs.YtbnfhklpobephaaGreatDoor
open Go Go.ChangeShapes Go.WideShapes Go.ChangeAt Go.RowKit

theorem own : ownKnob Tryz.prog.godebug = none := by kernel_rfl
theorem laidOut : laidOutB Tryz.prog = true := by kernel_rfl

/-- How a walk of a law ends. -/
def Fine (w : World) (e : Ending) (w' : World) : Prop := e = .returned (.bool true) ∧ Only (fun _ => False) w w'

/-- The arguments read as they did. -/
theorem args_stay {H : Type} {enc : TypeId × Value → H} {P : Program} (hl : laidOutB P = true) {W W' : World} (hb : Below W.heap.size W W') :
    ∀ {ts : List TypeId} {vs : List Value} {ds : List (DataW H)} {ps : List MemPlace}, (ts.all fun t => P.readableRec t && decide (t < P.types.size)) = true →
      DataW.TrodAll enc P W 0 (fun _ => true) true ts vs ds ps → (∀ x ∈ ps, x.block < W.heap.size) →
      DataW.TrodAll enc P W' 0 (fun b => decide (b < W.heap.size)) true ts vs ds ps
  | [], vs, ds, ps, _, h, _ => by
    obtain ⟨rfl, rfl, rfl⟩ := trodAll_nil h
    exact trodAll_mk0
  | t :: ts, vs, ds, ps, hr, h, hlt => by
    obtain ⟨v, vs', d, ds', p, q, rfl, rfl, rfl, h0, r⟩ := trodAll_cons h
    simp only [List.all_cons, Bool.and_eq_true, decide_eq_true_eq] at hr
    exact trodAll_cons_mk (Below.trod hl hr.1.1 hr.1.2 h0 hb (fun x hx => hlt x (List.mem_append.2 (.inl hx)))) (args_stay hl hb hr.2 r (fun x hx => hlt x (List.mem_append.2 (.inr hx))))

theorem law_post {H : Type} {enc : TypeId × Value → H} {P : Program} {f : Func} {s : ChangeSpec} {W W' : World} {args : Array Value} {ds gs : List (DataW H)} {before : List MemPlace} {tb : TypeId}
    (hl : laidOutB P = true) (hv : s.vars = []) (hfn : s.fn H (ds ++ gs) = { results := [.lit (.bool true)], args := ds }) (hrt : f.resultTypes = #[tb]) (hbool : P.underlying tb = some .bool)
    (hr : (f.params.toList.all fun t => P.readableRec t && decide (t < P.types.size)) = true)
    (hW : DataW.Whole enc P f.params.toList s.vars false W args.toList ds gs before) (hb : Below W.heap.size W W') :
    s.post enc P f false true false false W args (.bool true) W' := by
  have hW' := hW
  obtain ⟨p, q, hA, hV, rfl, hz, hn⟩ := hW
  rw [hv] at hV
  obtain ⟨rfl, rfl⟩ : gs = [] ∧ q = [] := by
    cases gs with
    | nil => exact ⟨rfl, hV⟩
    | cons g r => exact absurd hV (by intro h; cases h)
  refine ⟨_, _, _, [], p, [], hW', ?_, ?_, ?_, hb.frame _, fun h => by cases h⟩
  · rw [hfn, hrt]
    exact trodAll_mk1 (shut_bool hbool _)
  · rw [hfn]
    exact args_stay hl hb hr hA (fun x hx => hW'.lt x (by simpa using hx))
  · rw [hfn, hv]
    rfl

/-- A slice of bytes that came in. -/
theorem opened {H : Type} {enc : TypeId × Value → H} {P : Program} {t e : TypeId} (ht : P.underlying t = some (.slice e)) (he : P.underlying e = some (.int .u8)) (hc : P.cellsOf e = 1) {W : World} {a0 : Option Addr} {len cap : Nat} {d0 : DataW H} {p : List MemPlace}
    {spare : Nat → Bool} {fuel : Nat} (hf : DataW.trod enc P W 0 spare true fuel t [.slice a0 len cap] = some (d0, p)) :
    ∃ xs : List UInt8, Src W a0 len xs ∧ len ≤ cap ∧ cap ≤ 9223372036854775807 := by
  rcases open_ints ht he hc hf with ⟨hcs, hx⟩ | ⟨a, len', cap', zs, hcs, _, hl, hm, hz, hx, hcell, hwz⟩
  · simp at hcs
    obtain ⟨rfl, rfl, rfl⟩ := hcs
    exact ⟨[], Src.nil _ _, Nat.le_refl _, by omega⟩
  · simp at hcs
    obtain ⟨rfl, rfl, rfl⟩ := hcs
    have hzl : len ≤ zs.length := by split at hz <;> omega
    refine ⟨(zs.take len).map fun n => UInt8.ofNat n.toNat, ⟨by simp; omega, fun _ => ⟨_, rfl, fun j x hx => ?_⟩⟩, hl, by unfold maxLen at hm; omega⟩
    rw [List.getElem?_map, List.getElem?_take] at hx
    split at hx
    · have hj : j < zs.length := by omega
      rw [hcell j hj]
      rw [List.getElem?_eq_getElem hj] at hx
      simp only [Option.map_some, Option.some.injEq] at hx
      subst hx
      have hb := bounds_u8 (hwz _ (List.getElem_mem hj))
      unfold B8
      congr 2
      rw [List.getD_eq_getElem?_getD, List.getElem?_eq_getElem hj]
      simp only [Option.getD_some]
      have : (UInt8.ofNat zs[j].toNat).toNat = zs[j].toNat := by
        rw [UInt8.toNat_ofNat']
        omega
      rw [this]
      omega
    · cases hx

/-- An array of integers that came in by value. -/
theorem open_array_ints {H : Type} {enc : TypeId × Value → H} {P : Program} {t e : TypeId} {n : Nat} {k : IntKind} (ht : P.underlying t = some (.array n e)) (he : P.underlying e = some (.int k)) (hc : P.cellsOf e = 1) (hct : P.cellsOf t = n)
    {W : World} {r : Reach} {b0 base : Nat} {spare : Nat → Bool} {held : Bool} {v : Value} {d : DataW H} {p : List MemPlace} (hv : Value.okWide P W r b0 t v) (h : DataW.Trod enc P W base spare held t v d p) :
    ∃ zs : List Int, zs.length = n ∧ v = .agg (zs.map (Value.int k)).toArray ∧ ∀ z ∈ zs, (Lit.int k z).wf = true := by
  unfold Value.okWide at hv
  rw [ht] at hv
  obtain ⟨cs, rfl, hsz, _⟩ := hv
  obtain ⟨fuel, hf⟩ := h
  obtain ⟨xs, m, _, _, _, hxl, hel⟩ := DataW.trod_array ht hf
  obtain ⟨l⟩ := cs
  simp only [Value.cells] at hel
  rw [hct] at hsz
  have hl : l.length = n := by simpa using hsz
  have each : ∀ i (hi : i < n), ∃ z, l[i]? = some (.int k z) ∧ (Lit.int k z).wf = true := fun i hi => by
    have h1 := hel i hi
    have hx : xs[i]? = some xs[i] := List.getElem?_eq_getElem (by omega)
    rw [hx, hc, Nat.mul_one] at h1
    obtain ⟨z, e1, _, e3⟩ := DataW.trod_int he h1
    have h2 : ((l.drop i).take 1)[0]? = l[i]? := by simp
    rw [e1] at h2
    exact ⟨z, h2.symm, e3⟩
  have whole : ∀ (j : Nat) (l : List Value), l.length = j → (∀ i (hi : i < j), ∃ z, l[i]? = some (.int k z) ∧ (Lit.int k z).wf = true) → ∃ zs : List Int, zs.length = j ∧ l = zs.map (Value.int k) ∧ ∀ z ∈ zs, (Lit.int k z).wf = true := by
    intro j
    induction j with
    | zero =>
      intro l hl _
      exact ⟨[], rfl, by simpa using List.eq_nil_of_length_eq_zero hl, fun _ h => by cases h⟩
    | succ j ih =>
      intro l hl he
      match l, hl with
      | c :: l, hl =>
        obtain ⟨z, e1, e2⟩ := he 0 (by omega)
        obtain ⟨zs, h1, h2, h3⟩ := ih l (by simpa using hl) (fun i hi => by simpa using he (i + 1) (by omega))
        simp only [List.getElem?_cons_zero, Option.some.injEq] at e1
        refine ⟨z :: zs, by simp [h1], by rw [e1, h2]; rfl, fun y hy => ?_⟩
        rcases List.mem_cons.1 hy with rfl | hy
        · exact e2
        · exact h3 y hy
  obtain ⟨zs, h1, h2, h3⟩ := whole n l hl each
  exact ⟨zs, h1, by rw [h2], h3⟩
end Go.Proofs.YtbnfhklpobephaaGreatDoor
/- Rows of strings: what came in, what a call laid, a part of it; two of them compared. -/
namespace Go.Proofs.YtbnfhklpobephaaGreatDoor
open Go Go.ChangeShapes Go.WideShapes Go.ChangeAt Go.RowKit
set_option maxRecDepth 100000
set_option maxHeartbeats 4000000

/-- A string as a cell holds it. -/
@[reducible] def S8 (s : List UInt8) : Value := .string ⟨s.toArray⟩
theorem S8_one (ts : List (List UInt8)) : ∀ u ∈ ts.map S8, u.oneCell' = true := by
  intro u hu
  obtain ⟨x, _, rfl⟩ := List.mem_map.1 hu
  rfl
theorem info_str : (Tryz.prog.info? 9).map (fun i => (i.zero, i.size, i.bytes)) = some (some (.string ⟨#[]⟩), 1, 16) := by kernel_rfl

/-- A slice of strings. -/
def TSrc (w : World) (A : Option Addr) (n : Nat) (ts : List (List UInt8)) : Prop :=
  ts.length = n ∧ (0 < n → ∃ ad, A = some ad ∧ ∀ (j : Nat) (s : List UInt8), ts[j]? = some s → w.cell? (ad.add j) = some (.string ⟨s.toArray⟩))
section
variable {w w' : World} {A : Option Addr} {n : Nat} {ts : List (List UInt8)}
theorem TSrc.nil (w : World) (A : Option Addr) : TSrc w A 0 [] := ⟨rfl, fun h => absurd h (by omega)⟩
theorem TSrc.only {S : Nat → Prop} (h : TSrc w A n ts) (ho : Only S w w') (hS : 0 < n → ∀ ad, A = some ad → ¬ S ad.block) : TSrc w' A n ts :=
  ⟨h.1, fun hn => by
    obtain ⟨ad, e, hc⟩ := h.2 hn
    exact ⟨ad, e, fun j x hx => ho.cellv (hc j x hx) (by rw [block_add]; exact hS hn ad e)⟩⟩
theorem TSrc.same (h : TSrc w A n ts) (ho : Only (fun _ => False) w w') : TSrc w' A n ts := h.only ho (fun _ _ _ h => h)
theorem TSrc.lt (h : TSrc w A n ts) (hn : 0 < n) : ∀ ad, A = some ad → ad.block < w.heap.size := by
  obtain ⟨ad, e, hc⟩ := h.2 hn
  intro ad' e'
  rw [e] at e'
  injection e' with e'
  subst e'
  have hl := h.1
  have h1 := World.block_lt_of_cell? w _ (hc 0 (ts[0]'(by omega)) (List.getElem?_eq_getElem (by omega)))
  rwa [block_add] at h1
/-- .. what was there stays, whatever newer blocks turn. -/
theorem TSrc.old {S : Nat → Prop} (h : TSrc w A n ts) (ho : Only S w w') (hS : ∀ k, k < w.heap.size → ¬ S k) : TSrc w' A n ts := h.only ho (fun hn ad e => hS _ (h.lt hn ad e))
theorem TSrc.take (h : TSrc w A n ts) (k : Nat) (hk : k ≤ n) : TSrc w A k (ts.take k) := by
  refine ⟨by rw [List.length_take, h.1]; omega, fun h0 => ?_⟩
  obtain ⟨ad, e, hc⟩ := h.2 (by omega)
  refine ⟨ad, e, fun j x hx => ?_⟩
  rw [List.getElem?_take] at hx
  split at hx
  · exact hc j x hx
  · cases hx
theorem TSrc.of_blk {N : Nat} {e : TypeId} {cs : List Value} (h : Blk w N e cs) (hl : ts.length = n) (hx : ∀ (j : Nat) (x : List UInt8), ts[j]? = some x → cs[j]? = some (S8 x)) : TSrc w (some ⟨N, 0, none⟩) n ts :=
  ⟨hl, fun _ => ⟨_, rfl, fun j x hj => by rw [at_add, h.cell]; exact hx j x hj⟩⟩
theorem TSrc.of_own {B c : Nat} {e : TypeId} (h : w.ownsRow B e 1 (.slice A n c) n (ts.map S8)) : TSrc w A n ts := by
  refine ⟨by have := h.1; simpa using this, fun hn => ?_⟩
  obtain ⟨g, hA, _, _, hc⟩ := own_at h hn
  exact ⟨_, hA, fun j x hx => by rw [at_add]; exact hc j _ (by rw [List.getElem?_map, hx]; rfl)⟩
/-- One of them, in every world that only grew. -/
theorem TSrc.get (h : TSrc w A n ts) {k : Nat} (hk : k < n) : ∃ ad s, A = some ad ∧ ts[k]? = some s ∧ w.cell? (ad.add k) = some (.string ⟨s.toArray⟩) := by
  obtain ⟨ad, e, hc⟩ := h.2 (by omega)
  have hs : ts[k]? = some (ts[k]'(by rw [h.1]; exact hk)) := List.getElem?_eq_getElem _
  exact ⟨ad, _, e, hs, hc k _ hs⟩
end

/-- A slice of strings that came in. -/
theorem opened_texts {H : Type} {enc : TypeId × Value → H} {W : World} {spare : Nat → Bool} {fuel : Nat} {a0 : Option Addr} {len cap : Nat} {x : DataW H × List MemPlace} (hf : DataW.trod enc Tryz.prog W 0 spare true fuel 27 [.slice a0 len cap] = some x) :
    ∃ ts : List (List UInt8), TSrc W a0 len ts ∧ len ≤ cap ∧ cap ≤ 9223372036854775807 ∧ ∀ t ∈ ts, t.length ≤ 9223372036854775807 := by
  rcases Go.Deep.open_strs Tryz.underlying27 Tryz.underlying9 (by kernel_rfl) hf with ⟨hcs, _⟩ | ⟨a, l, c, m, Sx, hcs, _, hl, hm, hmm, _, hcell⟩
  · simp at hcs
    obtain ⟨rfl, rfl, rfl⟩ := hcs
    exact ⟨[], TSrc.nil _ _, Nat.le_refl _, by omega, fun _ h => by cases h⟩
  · simp at hcs
    obtain ⟨rfl, rfl, rfl⟩ := hcs
    have hlm : len ≤ m := by rw [hmm]; split <;> omega
    refine ⟨(List.range len).map fun i => (Sx i).data.toList, ⟨by simp, fun _ => ⟨_, rfl, fun j s hs => ?_⟩⟩, hl, by unfold maxLen at hm; omega, fun t ht => ?_⟩
    · rw [List.getElem?_map] at hs
      have hj : j < len := by
        rcases Nat.lt_or_ge j len with h | h
        · exact h
        · rw [List.getElem?_eq_none (by simpa using h)] at hs
          cases hs
      rw [List.getElem?_range hj] at hs
      simp only [Option.map_some, Option.some.injEq] at hs
      subst hs
      rw [(hcell j (by omega)).1]
    · obtain ⟨i, hi, rfl⟩ := List.mem_map.1 ht
      have := (hcell i (by have := List.mem_range.1 hi; omega)).2
      have e : (Sx i).data.toList.length = (Sx i).size := Array.length_toList
      rw [e]
      exact this
end Go.Proofs.YtbnfhklpobephaaGreatDoor
