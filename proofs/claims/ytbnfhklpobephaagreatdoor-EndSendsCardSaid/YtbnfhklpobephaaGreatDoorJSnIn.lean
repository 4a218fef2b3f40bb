/- Several texts in one. -/
import Derived.Test.YtbnfhklpobephaaGreatDoorJBase
import Derived.Great.Ranges
import Derived.Great.BuildSlice
import Derived.Deep.WholeRow
import Derived.Laws.Concat
import Derived.ProofKit
import Derived.OpenShut
import Derived.LaidMore
import Derived.Stop.Joined
import Derived.Deep.DeepHandedRow
import Derived.Deep.DeepWitnessRowRef
import Derived.Deep.Slices
/- A struct within a block: its cells from a place on. -/
namespace Go.Proofs.YtbnfhklpobephaaGreatDoor
open Go Go.RowKit
set_option maxRecDepth 100000

/-- From place mo on block p holds cs. -/
structure InB (w : World) (p : Nat) (t : TypeId) (pre post : List Value) (mo : Nat) (cs : List Value) : Prop where
  blk : Blk w p t (pre ++ (cs ++ post))
  len : pre.length = mo
section
variable {w w' : World} {p mo : Nat} {t : TypeId} {pre post cs : List Value}
theorem InB.lt (h : InB w p t pre post mo cs) : p < w.heap.size := h.blk.lt
theorem InB.cell (h : InB w p t pre post mo cs) {i : Nat} (hi : i < cs.length) : w.cell? ⟨p, mo + i, none⟩ = cs[i]? := (h.blk.cell _).trans (get_mid h.len i hi)
theorem InB.val (h : InB w p t pre post mo cs) {i : Nat} {v : Value} (hi : cs[i]? = some v) : w.cell? ⟨p, mo + i, none⟩ = some v := (h.cell (List.getElem?_eq_some_iff.1 hi).1).trans hi
theorem InB.frozen (h : InB w p t pre post mo cs) (i : Nat) : w.frozen? ⟨p, i, none⟩ = false := h.blk.frozen i
theorem InB.setCell (h : InB w p t pre post mo cs) {i : Nat} (hi : i < cs.length) (v : Value) : InB (w.setCell ⟨p, mo + i, none⟩ v) p t pre post mo (cs.set i v) := ⟨by
  have := h.blk.setCell (mo + i) v
  rwa [set_mid h.len i hi] at this, h.len⟩
theorem InB.only {S : Nat → Prop} (h : InB w p t pre post mo cs) (ho : Only S w w') (hS : ¬ S p) : InB w' p t pre post mo cs := ⟨h.blk.only ho hS, h.len⟩
theorem InB.same (h : InB w p t pre post mo cs) (ho : Only (fun _ => False) w w') : InB w' p t pre post mo cs := h.only ho (fun h => h)
theorem InB.drew (h : InB w p t pre post mo cs) : InB w.drew p t pre post mo cs := ⟨h.blk.drew, h.len⟩
theorem InB.drewN (h : InB w p t pre post mo cs) (n : Nat) : InB (w.drewN n) p t pre post mo cs := ⟨h.blk.drewN n, h.len⟩
theorem InB.alloc (h : InB w p t pre post mo cs) (o : Obj) : InB (w.alloc o) p t pre post mo cs := ⟨h.blk.alloc o, h.len⟩
theorem InB.range (h : InB w p t pre post mo cs) : w.rangeAt p mo cs := fun _ _ hj => h.val hj
/-- A piece of it. -/
theorem InB.sub {a b c : List Value} (h : InB w p t pre post mo (a ++ (b ++ c))) : InB w p t (pre ++ a) (c ++ post) (mo + a.length) b := ⟨by
  have := h.blk
  simpa [List.append_assoc] using this, by rw [List.length_append, h.len]⟩
end
end Go.Proofs.YtbnfhklpobephaaGreatDoor
/- Rows of bytes of the program's own; what of bytes can be read; the append of bytes. -/
namespace Go.Proofs.YtbnfhklpobephaaGreatDoor
open Go Go.RowKit
set_option maxRecDepth 100000
set_option maxHeartbeats 4000000

/-- A body that the program laid itself. -/
def Body (w : World) (B : Nat) (v : Value) (b : List UInt8) : Prop := w.ownsRow B 5 1 v b.length (b.map B8)
theorem nil_body (w : World) (B : Nat) : Body w B (.slice none 0 0) [] := own_nil w B _ _
/-- A body that can be read. -/
def Reads (w : World) (v : Value) (b : List UInt8) : Prop := ∃ A c, v = .slice A b.length c ∧ Src w A b.length b ∧ b.length ≤ c
theorem Body.reads {w : World} {B : Nat} {v : Value} {b : List UInt8} (h : Body w B v b) : Reads w v b := by
  obtain ⟨A, c, rfl, hle, _⟩ := own_form h
  refine ⟨A, c, rfl, ⟨rfl, fun hn => ?_⟩, hle⟩
  obtain ⟨g, hA, _, _, hc⟩ := own_at h hn
  exact ⟨_, hA, fun j x hx => by rw [at_add]; exact hc j _ (by rw [List.getElem?_map, hx]; rfl)⟩
theorem Reads.same {w w' : World} {v : Value} {b : List UInt8} (h : Reads w v b) (ho : Only (fun _ => False) w w') : Reads w' v b := by
  obtain ⟨A, c, rfl, h1, h2⟩ := h
  exact ⟨A, c, rfl, h1.only ho (fun _ _ _ h => h), h2⟩

theorem Reads.only {S : Nat → Prop} {w w' : World} {v : Value} {b : List UInt8} (h : Reads w v b) (ho : Only S w w') (hS : ∀ k, k < w.heap.size → ¬ S k) : Reads w' v b := by
  obtain ⟨A, c, rfl, h1, h2⟩ := h
  exact ⟨A, c, rfl, h1.only ho (fun hn ad e => hS _ (h1.lt hn ad e)), h2⟩
/-- A source of bytes, read on behind its first one. -/
theorem Src.tail {w : World} {A : Option Addr} {n : Nat} {x : UInt8} {xs : List UInt8} (h : Src w A n (x :: xs)) (D : Option Addr) (hD : 1 < n → ∀ ad, A = some ad → D = some (ad.add 1)) : Src w D (n - 1) xs := by
  obtain ⟨hl, hc⟩ := h
  simp only [List.length_cons] at hl
  refine ⟨by omega, fun hn => ?_⟩
  obtain ⟨ad, rfl, h2⟩ := hc (by omega)
  refine ⟨_, hD (by omega) ad rfl, fun j y hy => ?_⟩
  rw [Go.Deep.add_add, show 1 + j = j + 1 from by omega]
  exact h2 (j + 1) y (by simpa using hy)

/-- append of bytes onto a row of the call's own. -/
theorem step_bytes {ops : Array Oper} {rest : List Oper} {o : Oper} {a : Act} {w : World} {Q : Exit → Act → World → Prop} (hgd : o.guard = none) (sx x : Operand) (ho : o.op = .call { callee := .builtin .append, args := #[sx, x], argTypes := #[45, 45] })
    (B : Nat) (A : Option Addr) (n c : Nat) (xs : List UInt8) (hs : a.eval sx = .slice A n c) (hb : Body w B (.slice A n c) xs) (hn : n = xs.length) (S : Option Addr) (m c2 : Nat) (ys : List UInt8) (hx : a.eval x = .slice S m c2) (hsrc : Src w S m ys) (hbd : n + m ≤ 1048576) (hB : B ≤ w.heap.size)
    (h : ∀ A' c' w', Hid (Body w' B (.slice A' (n + m) c') (xs ++ ys)) → Hid (Only (fun i => B ≤ i) w w') → wpList Tryz.prog ops Q rest (a.put o.dst (.slice A' (n + m) c')) w') :
    wpList Tryz.prog ops Q (o :: rest) a w := by
  subst hn
  obtain ⟨i, hi, hz, h1, h2⟩ := info_parts info_byte
  refine step_append_own hgd sx x 45 ho B 5 i _ 1 1 Tryz.underlying45 hi hz h1 h2 rfl (by omega) _ xs.length (xs.map B8) hs hb S m c2 (ys.map B8) hx (by rw [List.length_map, hsrc.1, Nat.mul_one]) (fun hm => ?_) (fun u hu => by obtain ⟨z, _, rfl⟩ := List.mem_map.1 hu; rfl) (by omega) (by omega) hB ?_
  · obtain ⟨ad, e, hc⟩ := hsrc.2 hm
    refine ⟨ad, e, fun j u hu => ?_⟩
    rw [List.getElem?_map] at hu
    cases hy : ys[j]? with
    | none => rw [hy] at hu; cases hu
    | some y =>
      rw [hy] at hu
      injection hu with hu
      subst hu
      exact hc j y hy
  · intro A' c' w' _ _ hq
    have hq1 := hq.out.1
    have hq2 := hq.out.2.1
    refine h A' c' w' (show Body _ _ _ _ from ?_) (show Only _ _ _ from Only.grown (Only.refl _ _) hq2 (fun k hk => .inl (own_lt hb k hk).1))
    unfold Body
    rw [List.length_append, List.map_append, hsrc.1]
    exact hq1

theorem Body.form {w : World} {B : Nat} {v : Value} {b : List UInt8} (h : Body w B v b) : ∃ A c, v = .slice A b.length c ∧ b.length ≤ c ∧ c ≤ 9223372036854775807 := own_form h
theorem Body.same {w w' : World} {B : Nat} {v : Value} {b : List UInt8} (h : Body w B v b) (ho : Only (fun _ => False) w w') : Body w' B v b := own_same h ho
theorem Body.src {w : World} {B : Nat} {A : Option Addr} {n c : Nat} {b : List UInt8} (h : Body w B (.slice A n c) b) (hn : n = b.length) : Src w A n b := by
  obtain ⟨A', c', e, h1, _⟩ := h.reads
  injection e with e1 e2 e3
  subst e1 hn
  exact h1

theorem len_snoc {α : Type} (l : List α) (x : α) : (l ++ [x]).length = l.length + 1 := by simp
end Go.Proofs.YtbnfhklpobephaaGreatDoor
/- Two texts, one behind the other. -/
namespace Go.Proofs.YtbnfhklpobephaaGreatDoor
open Go Go.RowKit

theorem sum_texts {P : Program} {w : World} (x y z : List UInt8) (h : x ++ y = z) (hl : x.length + y.length ≤ 9223372036854775807) :
    (Op.stringOp .add (ByteArray.mk x.toArray) (ByteArray.mk y.toArray)).run P w = .ok (.string (ByteArray.mk z.toArray)) w := by
  subst h
  have := run_string_add_sum (P := P) w (ByteArray.mk x.toArray) (ByteArray.mk y.toArray) (by simpa [ByteArray.size] using hl)
  rw [this, ByteArray.mk_append_mk]
end Go.Proofs.YtbnfhklpobephaaGreatDoor
/- Strings as rows of bytes: by index, by parts, one behind the other; the text of bytes in every world that only grew; pieces of bytes. -/
namespace Go.Proofs.YtbnfhklpobephaaGreatDoor
open Go Go.RowKit
set_option maxRecDepth 100000

theorem str_get {s : List UInt8} {k : Nat} {x : UInt8} (h : s[k]? = some x) (hp : k < (ByteArray.mk s.toArray).size) : (ByteArray.mk s.toArray)[k]'hp = x := by
  have := (List.getElem?_eq_some_iff.1 h).2
  show s.toArray[k]'hp = x
  simpa using this
theorem take_snoc {α : Type} {l : List α} {k : Nat} {x : α} (h : l[k]? = some x) : l.take (k + 1) = l.take k ++ [x] := by
  rw [List.take_add_one, h]
  rfl

/-- A number as a byte. -/
def b8 (z : Int) : UInt8 := UInt8.ofNat z.toNat
theorem b8_nat {z : Int} (h0 : 0 ≤ z) (h1 : z ≤ 255) : (b8 z).toNat = z.toNat := by
  unfold b8
  rw [UInt8.toNat_ofNat']
  omega
theorem b8_int {z : Int} (h0 : 0 ≤ z) (h1 : z ≤ 255) : ((b8 z).toNat : Int) = z := by
  rw [b8_nat h0 h1]
  omega

/-- string(b) of bytes of the call's own, in every world that only grew. -/
def Texts (w : World) (A : Option Addr) (n c : Nat) (b : List UInt8) : Prop := ∀ W : World, Only (fun _ => False) w W → (convert 45 9 (.slice A n c)).run Tryz.prog W = .ok (.string ⟨b.toArray⟩) W
theorem Src.texts {w : World} {A : Option Addr} {n : Nat} {b : List UInt8} (h : Src w A n b) (c : Nat) : Texts w A n c b := fun _ ho =>
  text_of (P := Tryz.prog) (h.only ho (fun _ _ _ h => h)) c 45 9 5 Tryz.underlying45 Tryz.underlying5 Tryz.underlying9
theorem Body.texts {w : World} {B : Nat} {A : Option Addr} {n c : Nat} {b : List UInt8} (h : Body w B (.slice A n c) b) (hn : n = b.length) : Texts w A n c b := (h.src hn).texts c

theorem Src.take {w : World} {A : Option Addr} {n : Nat} {xs : List UInt8} (h : Src w A n xs) (k : Nat) (hk : k ≤ n) : Src w A k (xs.take k) := by
  refine ⟨by rw [List.length_take, h.1]; omega, fun h0 => ?_⟩
  obtain ⟨ad, e, hc⟩ := h.2 (by omega)
  refine ⟨ad, e, fun j x hx => ?_⟩
  rw [List.getElem?_take] at hx
  split at hx
  · exact hc j x hx
  · cases hx
/-- A piece of bytes. -/
theorem Src.piece {w : World} {A : Option Addr} {n : Nat} {xs : List UInt8} (h : Src w A n xs) (a b : Nat) (hab : a ≤ b) (hb : b ≤ n) (D : Option Addr) (hD : a < b → ∀ ad, A = some ad → D = some (ad.add a)) : Src w D (b - a) ((xs.take b).drop a) := by
  have hl := h.1
  refine ⟨by rw [List.length_drop, List.length_take]; omega, fun h0 => ?_⟩
  obtain ⟨ad, e, hc⟩ := h.2 (by omega)
  refine ⟨_, hD (by omega) ad e, fun j x hx => ?_⟩
  rw [List.getElem?_drop, List.getElem?_take] at hx
  split at hx
  · rw [Go.Deep.add_add]
    exact hc (a + j) x hx
  · cases hx

theorem Blk.grown {w w' : World} {g : Nat} {t : TypeId} {cs : List Value} {row : Option Nat} (h : Blk w g t cs) (hg : w.grownBy w' row) (hne : row ≠ some g) : Blk w' g t cs := (hg.block g h.lt (fun e => hne e.symm)).trans h
/-- append of bytes onto a row of the call's own: nothing else turns. -/
theorem step_bytesG {ops : Array Oper} {rest : List Oper} {o : Oper} {a : Act} {w : World} {Q : Exit → Act → World → Prop} (hgd : o.guard = none) (sx x : Operand) (ho : o.op = .call { callee := .builtin .append, args := #[sx, x], argTypes := #[45, 45] })
    (B : Nat) (A : Option Addr) (n c : Nat) (xs : List UInt8) (hs : a.eval sx = .slice A n c) (hb : Body w B (.slice A n c) xs) (hn : n = xs.length) (S : Option Addr) (m c2 : Nat) (ys : List UInt8) (hx : a.eval x = .slice S m c2) (hsrc : Src w S m ys) (hbd : n + m ≤ 1048576) (hB : B ≤ w.heap.size)
    (h : ∀ A' c' w', Hid (Body w' B (.slice A' (n + m) c') (xs ++ ys)) → Hid (w.grownBy w' (Value.slice A n c).ownBlock) → wpList Tryz.prog ops Q rest (a.put o.dst (.slice A' (n + m) c')) w') :
    wpList Tryz.prog ops Q (o :: rest) a w := by
  subst hn
  obtain ⟨i, hi, hz, h1, h2⟩ := info_parts info_byte
  refine step_append_own hgd sx x 45 ho B 5 i _ 1 1 Tryz.underlying45 hi hz h1 h2 rfl (by omega) _ xs.length (xs.map B8) hs hb S m c2 (ys.map B8) hx (by rw [List.length_map, hsrc.1, Nat.mul_one]) (fun hm => ?_) (fun u hu => by obtain ⟨z, _, rfl⟩ := List.mem_map.1 hu; rfl) (by omega) (by omega) hB ?_
  · obtain ⟨ad, e, hc⟩ := hsrc.2 hm
    refine ⟨ad, e, fun j u hu => ?_⟩
    rw [List.getElem?_map] at hu
    cases hy : ys[j]? with
    | none => rw [hy] at hu; cases hu
    | some y =>
      rw [hy] at hu
      injection hu with hu
      subst hu
      exact hc j y hy
  · intro A' c' w' _ _ hq
    have hq1 := hq.out.1
    have hq2 := hq.out.2.1
    refine h A' c' w' (show Body _ _ _ _ from ?_) hq2
    unfold Body
    rw [List.length_append, List.map_append, hsrc.1]
    exact hq1

/-- .. and its row is the same, or a new one. -/
theorem step_bytesS {ops : Array Oper} {rest : List Oper} {o : Oper} {a : Act} {w : World} {Q : Exit → Act → World → Prop} (hgd : o.guard = none) (sx x : Operand) (ho : o.op = .call { callee := .builtin .append, args := #[sx, x], argTypes := #[45, 45] })
    (B : Nat) (A : Option Addr) (n c : Nat) (xs : List UInt8) (hs : a.eval sx = .slice A n c) (hb : Body w B (.slice A n c) xs) (hn : n = xs.length) (S : Option Addr) (m c2 : Nat) (ys : List UInt8) (hx : a.eval x = .slice S m c2) (hsrc : Src w S m ys) (hbd : n + m ≤ 1048576) (hB : B ≤ w.heap.size)
    (h : ∀ A' c' w', Hid (Body w' B (.slice A' (n + m) c') (xs ++ ys)) → Hid (w.grownBy w' (Value.slice A n c).ownBlock) → Hid (∀ k, (Value.slice A' (n + m) c').ownBlock = some k → (Value.slice A n c).ownBlock = some k ∨ w.heap.size ≤ k) → wpList Tryz.prog ops Q rest (a.put o.dst (.slice A' (n + m) c')) w') :
    wpList Tryz.prog ops Q (o :: rest) a w := by
  subst hn
  obtain ⟨i, hi, hz, h1, h2⟩ := info_parts info_byte
  refine step_append_own hgd sx x 45 ho B 5 i _ 1 1 Tryz.underlying45 hi hz h1 h2 rfl (by omega) _ xs.length (xs.map B8) hs hb S m c2 (ys.map B8) hx (by rw [List.length_map, hsrc.1, Nat.mul_one]) (fun hm => ?_) (fun u hu => by obtain ⟨z, _, rfl⟩ := List.mem_map.1 hu; rfl) (by omega) (by omega) hB ?_
  · obtain ⟨ad, e, hc⟩ := hsrc.2 hm
    refine ⟨ad, e, fun j u hu => ?_⟩
    rw [List.getElem?_map] at hu
    cases hy : ys[j]? with
    | none => rw [hy] at hu; cases hu
    | some y =>
      rw [hy] at hu
      injection hu with hu
      subst hu
      exact hc j y hy
  · intro A' c' w' _ _ hq
    have hq1 := hq.out.1
    refine h A' c' w' (show Body _ _ _ _ from ?_) hq.out.2.1 hq.out.2.2
    unfold Body
    rw [List.length_append, List.map_append, hsrc.1]
    exact hq1

/-- .. at a step of a region that draws its order. -/
theorem step_bytesR {ops : Array Oper} {o : Oper} {a : Act} {w : World} {K : Act → World → Prop} {Q : Exit → Act → World → Prop} {E : Prop} (hgd : o.guard = none) (sx x : Operand) (ho : o.op = .call { callee := .builtin .append, args := #[sx, x], argTypes := #[45, 45] })
    (B : Nat) (A : Option Addr) (n c : Nat) (xs : List UInt8) (hs : a.eval sx = .slice A n c) (hb : Body w B (.slice A n c) xs) (hn : n = xs.length) (S : Option Addr) (m c2 : Nat) (ys : List UInt8) (hx : a.eval x = .slice S m c2) (hm : 0 < m) (hsrc : Src w S m ys) (hbd : n + m ≤ 1048576) (hB : B ≤ w.heap.size)
    (h : ∀ A' c' w', Hid (Body w' B (.slice A' (n + m) c') (xs ++ ys)) → Hid (w.grownBy w' (Value.slice A n c).ownBlock) → K (a.put o.dst (.slice A' (n + m) c')) w') :
    if Region.wanted o (yielded ops a.tmps) = true then Oper.wp Tryz.prog o a w K Q else E := by
  subst hn
  obtain ⟨i, hi, hz, h1, h2⟩ := info_parts info_byte
  obtain ⟨ad, rfl, hc⟩ := hsrc.2 hm
  refine step_append_lies w hgd sx x 45 ho B 5 i _ 1 1 Tryz.underlying45 hi hz h1 h2 rfl (by omega) _ xs.length (xs.map B8) hs hb ad m c2 (ys.map B8) hx (by rw [List.length_map, hsrc.1, Nat.mul_one]) (fun j u hu => ?_) (fun u hu => by obtain ⟨z, _, rfl⟩ := List.mem_map.1 hu; rfl) hm (by unfold maxLen; omega) (by omega) hB _ rfl ?_
  · rw [List.getElem?_map] at hu
    cases hy : ys[j]? with
    | none => rw [hy] at hu; cases hu
    | some y =>
      rw [hy] at hu
      injection hu with hu
      subst hu
      exact hc j y hy
  · intro g cap w' hq1 hq2 _ _
    refine h _ cap w' (show Body _ _ _ _ from ?_) hq2
    unfold Body
    rw [List.length_append, List.map_append, hsrc.1]
    exact hq1
/-- The first byte lies where the slice begins. -/
theorem Src.head {w : World} {A : Option Addr} {n : Nat} {r : List UInt8} {c : UInt8} (hs : Src w A n (c :: r)) : ∃ ad, A = some ad ∧ w.cell? ad = some (.int .u8 (c.toNat : Int)) ∧ n = r.length + 1 := by
  have hl := hs.1
  rw [List.length_cons] at hl
  obtain ⟨ad, rfl, hx⟩ := hs.2 (by omega)
  have c0 := hx 0 c rfl
  rw [show ad.add 0 = ad from by simp [Addr.add]] at c0
  exact ⟨ad, rfl, c0, hl.symm⟩
end Go.Proofs.YtbnfhklpobephaaGreatDoor
/- From a walk that ends in true, and turns nothing that was there, to what a law's row asks: the same for every law. -/
namespace Go.Proofs.YtbnfhklpobephaaGreatDoor
open Go Go.ChangeShapes Go.WideShapes Go.ChangeAt Go.RowKit

theorem own : ownKnob Tryz.prog.godebug = none := by kernel_rfl
theorem laidOut : laidOutB Tryz.prog = true := by kernel_rfl

/-- How a walk of a law ends. -/
def Fine (w : World) (e : Ending) (w' : World) : Prop := e = .returned (.bool true) ∧ Only (fun _ => False) w w'

/-- The arguments read as they did. -/
theorem args_stay {H : Type} {enc : TypeId × Value → H} {P : Program} (hl : laidOutB P = true) {W W' : World} (hb : Below W.heap.size W W') :
    ∀ {ts : List TypeId} {vs : List Value} {ds : List (DataW H)} {ps : List MemPlace}, (ts.all fun t => P.readableRec t && decide (t < P.types.size)) = true →
      DataW.TrodAll enc P W 0 (fun _ => true) true ts vs ds ps → (∀ x ∈ ps, x.block < W.heap.size) →
      DataW.TrodAll enc P W' 0 (fun b => decide (b < W.heap.size)) true ts vs ds ps
  | [], vs, ds, ps, _, h, _ => by
    obtain ⟨rfl, rfl, rfl⟩ := trodAll_nil h
    exact trodAll_mk0
  | t :: ts, vs, ds, ps, hr, h, hlt => by
    obtain ⟨v, vs', d, ds', p, q, rfl, rfl, rfl, h0, r⟩ := trodAll_cons h
    simp only [List.all_cons, Bool.and_eq_true, decide_eq_true_eq] at hr
    exact trodAll_cons_mk (Below.trod hl hr.1.1 hr.1.2 h0 hb (fun x hx => hlt x (List.mem_append.2 (.inl hx)))) (args_stay hl hb hr.2 r (fun x hx => hlt x (List.mem_append.2 (.inr hx))))

theorem law_post {H : Type} {enc : TypeId × Value → H} {P : Program} {f : Func} {s : ChangeSpec} {W W' : World} {args : Array Value} {ds gs : List (DataW H)} {before : List MemPlace} {tb : TypeId}
    (hl : laidOutB P = true) (hv : s.vars = []) (hfn : s.fn H (ds ++ gs) = { results := [.lit (.bool true)], args := ds }) (hrt : f.resultTypes = #[tb]) (hbool : P.underlying tb = some .bool)
    (hr : (f.params.toList.all fun t => P.readableRec t && decide (t < P.types.size)) = true)
    (hW : DataW.Whole enc P f.params.toList s.vars false W args.toList ds gs before) (hb : Below W.heap.size W W') :
    s.post enc P f false true false false W args (.bool true) W' := by
  have hW' := hW
  obtain ⟨p, q, hA, hV, rfl, hz, hn⟩ := hW
  rw [hv] at hV
  obtain ⟨rfl, rfl⟩ : gs = [] ∧ q = [] := by
    cases gs with
    | nil => exact ⟨rfl, hV⟩
    | cons g r => exact absurd hV (by intro h; cases h)
  refine ⟨_, _, _, [], p, [], hW', ?_, ?_, ?_, hb.frame _, fun h => by cases h⟩
  · rw [hfn, hrt]
    exact trodAll_mk1 (shut_bool hbool _)
  · rw [hfn]
    exact args_stay hl hb hr hA (fun x hx => hW'.lt x (by simpa using hx))
  · rw [hfn, hv]
    rfl

/-- A slice of bytes that came in. -/
theorem opened {H : Type} {enc : TypeId × Value → H} {P : Program} {t e : TypeId} (ht : P.underlying t = some (.slice e)) (he : P.underlying e = some (.int .u8)) (hc : P.cellsOf e = 1) {W : World} {a0 : Option Addr} {len cap : Nat} {d0 : DataW H} {p : List MemPlace}
    {spare : Nat → Bool} {fuel : Nat} (hf : DataW.trod enc P W 0 spare true fuel t [.slice a0 len cap] = some (d0, p)) :
    ∃ xs : List UInt8, Src W a0 len xs ∧ len ≤ cap ∧ cap ≤ 9223372036854775807 := by
  rcases open_ints ht he hc hf with ⟨hcs, hx⟩ | ⟨a, len', cap', zs, hcs, _, hl, hm, hz, hx, hcell, hwz⟩
  · simp at hcs
    obtain ⟨rfl, rfl, rfl⟩ := hcs
    exact ⟨[], Src.nil _ _, Nat.le_refl _, by omega⟩
  · simp at hcs
    obtain ⟨rfl, rfl, rfl⟩ := hcs
    have hzl : len ≤ zs.length := by split at hz <;> omega
    refine ⟨(zs.take len).map fun n => UInt8.ofNat n.toNat, ⟨by simp; omega, fun _ => ⟨_, rfl, fun j x hx => ?_⟩⟩, hl, by unfold maxLen at hm; omega⟩
    rw [List.getElem?_map, List.getElem?_take] at hx
    split at hx
    · have hj : j < zs.length := by omega
      rw [hcell j hj]
      rw [List.getElem?_eq_getElem hj] at hx
      simp only [Option.map_some, Option.some.injEq] at hx
      subst hx
      have hb := bounds_u8 (hwz _ (List.getElem_mem hj))
      unfold B8
      congr 2
      rw [List.getD_eq_getElem?_getD, List.getElem?_eq_getElem hj]
      simp only [Option.getD_some]
      have : (UInt8.ofNat zs[j].toNat).toNat = zs[j].toNat := by
        rw [UInt8.toNat_ofNat']
        omega
      rw [this]
      omega
    · cases hx

end Go.Proofs.YtbnfhklpobephaaGreatDoor
