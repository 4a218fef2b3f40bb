
/- Strings as rows of bytes: by index, by parts, one behind the other; the text of bytes in every world that only grew; pieces of bytes. -/
import Derived.Test.YtgknhojjnnljkaaDoorBody
import Derived.Test.YtgknhojjnnljkaaDoorSum
namespace Go.Proofs.YtgknhojjnnljkaaDoor
open Go Go.RowKit
set_option maxRecDepth 100000

theorem str_get {s : List UInt8} {k : Nat} {x : UInt8} (h : s[k]? = some x) (hp : k < (ByteArray.mk s.toArray).size) : (ByteArray.mk s.toArray)[k]'hp = x := by
  have := (List.getElem?_eq_some_iff.1 h).2
  show s.toArray[k]'hp = x
  simpa using this
theorem str_two (f g : List UInt8) : (ByteArray.mk f.toArray) ++ (ByteArray.mk g.toArray) = ⟨(f ++ g).toArray⟩ := by
  apply ByteArray.ext
  simp
theorem str_cut (s : List UInt8) (a b : Nat) : (ByteArray.mk s.toArray).extract a b = ⟨((s.take b).drop a).toArray⟩ := by
  apply ByteArray.ext
  simp [List.extract_eq_take_drop, List.drop_take]
theorem str_snoc {f s : List UInt8} {k : Nat} {x : UInt8} (h : s[k]? = some x) : (ByteArray.mk f.toArray) ++ (ByteArray.mk s.toArray).extract k (k + 1) = ⟨(f ++ [x]).toArray⟩ := by
  rw [str_cut, str_two]
  congr 3
  obtain ⟨hk, hx⟩ := List.getElem?_eq_some_iff.1 h
  rw [List.drop_take, Nat.add_sub_cancel_left, List.drop_eq_getElem_cons hk, hx]
  rfl
theorem str_take (f : List UInt8) (n : Nat) : (ByteArray.mk f.toArray).extract 0 n = ⟨(f.take n).toArray⟩ := by
  rw [str_cut, List.drop_zero]

theorem take_snoc {α : Type} {l : List α} {k : Nat} {x : α} (h : l[k]? = some x) : l.take (k + 1) = l.take k ++ [x] := by
  rw [List.take_add_one, h]
  rfl

/-- A number as a byte. -/
def b8 (z : Int) : UInt8 := UInt8.ofNat z.toNat
theorem b8_nat {z : Int} (h0 : 0 ≤ z) (h1 : z ≤ 255) : (b8 z).toNat = z.toNat := by
  unfold b8
  rw [UInt8.toNat_ofNat']
  omega
theorem b8_int {z : Int} (h0 : 0 ≤ z) (h1 : z ≤ 255) : ((b8 z).toNat : Int) = z := by
  rw [b8_nat h0 h1]
  omega

theorem text_new (w : World) (xs : List UInt8) (n : Nat) (hn : xs.length = n) (cs : Array Value) (hc : cs = (xs.map B8).toArray) (g : Nat) (hg : w.heap.size = g) :
    (convert 34 9 (.slice (some ⟨g, 0, none⟩) n n)).run Tryd.prog (w.alloc (.cells cs 5)) = .ok (.string ⟨xs.toArray⟩) (w.alloc (.cells cs 5)) := by
  subst hg
  exact text_of (P := Tryd.prog) (src_new w xs cs 5 (0, 0) n hc hn) n 34 9 5 Tryd.underlying34 Tryd.underlying5 Tryd.underlying9

/-- string(b) of bytes of the call's own, in every world that only grew. -/
def Texts (w : World) (A : Option Addr) (n c : Nat) (b : List UInt8) : Prop := ∀ W : World, Only (fun _ => False) w W → (convert 34 9 (.slice A n c)).run Tryd.prog W = .ok (.string ⟨b.toArray⟩) W
theorem Src.texts {w : World} {A : Option Addr} {n : Nat} {b : List UInt8} (h : Src w A n b) (c : Nat) : Texts w A n c b := fun _ ho =>
  text_of (P := Tryd.prog) (h.only ho (fun _ _ _ h => h)) c 34 9 5 Tryd.underlying34 Tryd.underlying5 Tryd.underlying9
theorem Body.texts {w : World} {B : Nat} {A : Option Addr} {n c : Nat} {b : List UInt8} (h : Body w B (.slice A n c) b) (hn : n = b.length) : Texts w A n c b := (h.src hn).texts c

theorem Src.take {w : World} {A : Option Addr} {n : Nat} {xs : List UInt8} (h : Src w A n xs) (k : Nat) (hk : k ≤ n) : Src w A k (xs.take k) := by
  refine ⟨by rw [List.length_take, h.1]; omega, fun h0 => ?_⟩
  obtain ⟨ad, e, hc⟩ := h.2 (by omega)
  refine ⟨ad, e, fun j x hx => ?_⟩
  rw [List.getElem?_take] at hx
  split at hx
  · exact hc j x hx
  · cases hx
/-- A piece of bytes. -/
theorem Src.piece {w : World} {A : Option Addr} {n : Nat} {xs : List UInt8} (h : Src w A n xs) (a b : Nat) (hab : a ≤ b) (hb : b ≤ n) (D : Option Addr) (hD : a < b → ∀ ad, A = some ad → D = some (ad.add a)) : Src w D (b - a) ((xs.take b).drop a) := by
  have hl := h.1
  refine ⟨by rw [List.length_drop, List.length_take]; omega, fun h0 => ?_⟩
  obtain ⟨ad, e, hc⟩ := h.2 (by omega)
  refine ⟨_, hD (by omega) ad e, fun j x hx => ?_⟩
  rw [List.getElem?_drop, List.getElem?_take] at hx
  split at hx
  · rw [Go.Deep.add_add]
    exact hc (a + j) x hx
  · cases hx

theorem Blk.grown {w w' : World} {g : Nat} {t : TypeId} {cs : List Value} {row : Option Nat} (h : Blk w g t cs) (hg : w.grownBy w' row) (hne : row ≠ some g) : Blk w' g t cs := (hg.block g h.lt (fun e => hne e.symm)).trans h
/-- append of bytes onto a row of the call's own: nothing else turns. -/
theorem step_bytesG {ops : Array Oper} {rest : List Oper} {o : Oper} {a : Act} {w : World} {Q : Exit → Act → World → Prop} (hgd : o.guard = none) (sx x : Operand) (ho : o.op = .call { callee := .builtin .append, args := #[sx, x], argTypes := #[34, 34] })
    (B : Nat) (A : Option Addr) (n c : Nat) (xs : List UInt8) (hs : a.eval sx = .slice A n c) (hb : Body w B (.slice A n c) xs) (hn : n = xs.length) (S : Option Addr) (m c2 : Nat) (ys : List UInt8) (hx : a.eval x = .slice S m c2) (hsrc : Src w S m ys) (hbd : n + m ≤ 1048576) (hB : B ≤ w.heap.size)
    (h : ∀ A' c' w', Hid (Body w' B (.slice A' (n + m) c') (xs ++ ys)) → Hid (w.grownBy w' (Value.slice A n c).ownBlock) → wpList Tryd.prog ops Q rest (a.put o.dst (.slice A' (n + m) c')) w') :
    wpList Tryd.prog ops Q (o :: rest) a w := by
  subst hn
  obtain ⟨i, hi, hz, h1, h2⟩ := info_parts info_byte
  refine step_append_own hgd sx x 34 ho B 5 i _ 1 1 Tryd.underlying34 hi hz h1 h2 rfl (by omega) _ xs.length (xs.map B8) hs hb S m c2 (ys.map B8) hx (by rw [List.length_map, hsrc.1, Nat.mul_one]) (fun hm => ?_) (fun u hu => by obtain ⟨z, _, rfl⟩ := List.mem_map.1 hu; rfl) (by omega) (by omega) hB ?_
  · obtain ⟨ad, e, hc⟩ := hsrc.2 hm
    refine ⟨ad, e, fun j u hu => ?_⟩
    rw [List.getElem?_map] at hu
    cases hy : ys[j]? with
    | none => rw [hy] at hu; cases hu
    | some y =>
      rw [hy] at hu
      injection hu with hu
      subst hu
      exact hc j y hy
  · intro A' c' w' _ _ hq
    have hq1 := hq.out.1
    have hq2 := hq.out.2.1
    refine h A' c' w' (show Body _ _ _ _ from ?_) hq2
    unfold Body
    rw [List.length_append, List.map_append, hsrc.1]
    exact hq1

/-- .. and its row is the same, or a new one. -/
theorem step_bytesS {ops : Array Oper} {rest : List Oper} {o : Oper} {a : Act} {w : World} {Q : Exit → Act → World → Prop} (hgd : o.guard = none) (sx x : Operand) (ho : o.op = .call { callee := .builtin .append, args := #[sx, x], argTypes := #[34, 34] })
    (B : Nat) (A : Option Addr) (n c : Nat) (xs : List UInt8) (hs : a.eval sx = .slice A n c) (hb : Body w B (.slice A n c) xs) (hn : n = xs.length) (S : Option Addr) (m c2 : Nat) (ys : List UInt8) (hx : a.eval x = .slice S m c2) (hsrc : Src w S m ys) (hbd : n + m ≤ 1048576) (hB : B ≤ w.heap.size)
    (h : ∀ A' c' w', Hid (Body w' B (.slice A' (n + m) c') (xs ++ ys)) → Hid (w.grownBy w' (Value.slice A n c).ownBlock) → Hid (∀ k, (Value.slice A' (n + m) c').ownBlock = some k → (Value.slice A n c).ownBlock = some k ∨ w.heap.size ≤ k) → wpList Tryd.prog ops Q rest (a.put o.dst (.slice A' (n + m) c')) w') :
    wpList Tryd.prog ops Q (o :: rest) a w := by
  subst hn
  obtain ⟨i, hi, hz, h1, h2⟩ := info_parts info_byte
  refine step_append_own hgd sx x 34 ho B 5 i _ 1 1 Tryd.underlying34 hi hz h1 h2 rfl (by omega) _ xs.length (xs.map B8) hs hb S m c2 (ys.map B8) hx (by rw [List.length_map, hsrc.1, Nat.mul_one]) (fun hm => ?_) (fun u hu => by obtain ⟨z, _, rfl⟩ := List.mem_map.1 hu; rfl) (by omega) (by omega) hB ?_
  · obtain ⟨ad, e, hc⟩ := hsrc.2 hm
    refine ⟨ad, e, fun j u hu => ?_⟩
    rw [List.getElem?_map] at hu
    cases hy : ys[j]? with
    | none => rw [hy] at hu; cases hu
    | some y =>
      rw [hy] at hu
      injection hu with hu
      subst hu
      exact hc j y hy
  · intro A' c' w' _ _ hq
    have hq1 := hq.out.1
    refine h A' c' w' (show Body _ _ _ _ from ?_) hq.out.2.1 hq.out.2.2
    unfold Body
    rw [List.length_append, List.map_append, hsrc.1]
    exact hq1

/-- .. at a step of a region that draws its order. -/
theorem step_bytesR {ops : Array Oper} {o : Oper} {a : Act} {w : World} {K : Act → World → Prop} {Q : Exit → Act → World → Prop} {E : Prop} (hgd : o.guard = none) (sx x : Operand) (ho : o.op = .call { callee := .builtin .append, args := #[sx, x], argTypes := #[34, 34] })
    (B : Nat) (A : Option Addr) (n c : Nat) (xs : List UInt8) (hs : a.eval sx = .slice A n c) (hb : Body w B (.slice A n c) xs) (hn : n = xs.length) (S : Option Addr) (m c2 : Nat) (ys : List UInt8) (hx : a.eval x = .slice S m c2) (hm : 0 < m) (hsrc : Src w S m ys) (hbd : n + m ≤ 1048576) (hB : B ≤ w.heap.size)
    (h : ∀ A' c' w', Hid (Body w' B (.slice A' (n + m) c') (xs ++ ys)) → Hid (w.grownBy w' (Value.slice A n c).ownBlock) → K (a.put o.dst (.slice A' (n + m) c')) w') :
    if Region.wanted o (yielded ops a.tmps) = true then Oper.wp Tryd.prog o a w K Q else E := by
  subst hn
  obtain ⟨i, hi, hz, h1, h2⟩ := info_parts info_byte
  obtain ⟨ad, rfl, hc⟩ := hsrc.2 hm
  refine step_append_lies w hgd sx x 34 ho B 5 i _ 1 1 Tryd.underlying34 hi hz h1 h2 rfl (by omega) _ xs.length (xs.map B8) hs hb ad m c2 (ys.map B8) hx (by rw [List.length_map, hsrc.1, Nat.mul_one]) (fun j u hu => ?_) (fun u hu => by obtain ⟨z, _, rfl⟩ := List.mem_map.1 hu; rfl) hm (by unfold maxLen; omega) (by omega) hB _ rfl ?_
  · rw [List.getElem?_map] at hu
    cases hy : ys[j]? with
    | none => rw [hy] at hu; cases hu
    | some y =>
      rw [hy] at hu
      injection hu with hu
      subst hu
      exact hc j y hy
  · intro g cap w' hq1 hq2 _ _
    refine h _ cap w' (show Body _ _ _ _ from ?_) hq2
    unfold Body
    rw [List.length_append, List.map_append, hsrc.1]
    exact hq1
/-- The first byte lies where the slice begins. -/
theorem Src.head {w : World} {A : Option Addr} {n : Nat} {r : List UInt8} {c : UInt8} (hs : Src w A n (c :: r)) : ∃ ad, A = some ad ∧ w.cell? ad = some (.int .u8 (c.toNat : Int)) ∧ n = r.length + 1 := by
  have hl := hs.1
  rw [List.length_cons] at hl
  obtain ⟨ad, rfl, hx⟩ := hs.2 (by omega)
  have c0 := hx 0 c rfl
  rw [show ad.add 0 = ad from by simp [Addr.add]] at c0
  exact ⟨ad, rfl, c0, hl.symm⟩
end Go.Proofs.YtgknhojjnnljkaaDoor
