/- CellsActs: the program's screen and the document's, side by side; the acts that came in. -/
import Derived.Test.YtgknhojjnnljkaaDoorCePartsL
import Derived.Test.YtgknhojjnnljkaaDoorCeRefMark
import Derived.Test.YtgknhojjnnljkaaDoorCeRefLine
import Derived.Test.YtgknhojjnnljkaaDoorCeRefSize
import Derived.Test.YtgknhojjnnljkaaDoorNumIs
import Derived.Test.YtgknhojjnnljkaaDoorByt
import Derived.Test.YtgknhojjnnljkaaDoorStructs
import Derived.Test.YtgknhojjnnljkaaDoorOpenBytes
namespace Go.Proofs.YtgknhojjnnljkaaDoor
open Go Go.ChangeShapes Go.WideShapes Go.ChangeAt Go.RowKit
set_option maxRecDepth 100000
set_option maxHeartbeats 4000000

/-- What is kept of some blocks. -/
def KeepB (K : Nat → Prop) (W W' : World) : Prop := ∀ (g : Nat) (t : TypeId) (cs : List Value), K g → Blk W g t cs → Blk W' g t cs
/-- Two screens, made behind w, and blocks that are neither's. -/
structure AR (w : World) (K : Nat → Prop) (p p2 : Nat) (S T : Sc) (W : World) : Prop where
  ex : ∃ F G, ScAt W p F S ∧ DAt W p2 G T ∧ (∀ k, F k → ¬ G k) ∧ (∀ k, K k → k < W.heap.size ∧ ¬ F k ∧ ¬ G k) ∧ ∀ k, F k ∨ G k → w.heap.size ≤ k
  o : Only (fun _ => False) w W
section
variable {w W W' : World} {K K' : Nat → Prop} {p p2 : Nat} {S T S' T' : Sc}
theorem AR.same (h : AR w K p p2 S T W) (ho : Only (fun _ => False) W W') : AR w K p p2 S T W' := by
  obtain ⟨F, G, h1, h2, h3, h4, h5⟩ := h.ex
  exact ⟨⟨F, G, h1.same ho, h2.same ho, h3, fun k hk => ⟨Nat.lt_of_lt_of_le (h4 k hk).1 ho.size, (h4 k hk).2⟩, h5⟩, h.o.trans ho (fun _ h => h.elim)⟩
theorem AR.weaken (h : AR w K p p2 S T W) (hK : ∀ k, K' k → K k) : AR w K' p p2 S T W := by
  obtain ⟨F, G, h1, h2, h3, h4, h5⟩ := h.ex
  exact ⟨⟨F, G, h1, h2, h3, fun k hk => h4 k (hK k hk), h5⟩, h.o⟩
/-- A new block is neither's. -/
theorem AR.more (h : AR w K p p2 S T W) (ho : Only (fun _ => False) W W') {g : Nat} (hg : W.heap.size ≤ g) (hg' : g < W'.heap.size) : AR w (fun k => K k ∨ k = g) p p2 S T W' := by
  obtain ⟨F, G, h1, h2, h3, h4, h5⟩ := h.ex
  refine ⟨⟨F, G, h1.same ho, h2.same ho, h3, fun k hk => ?_, h5⟩, h.o.trans ho (fun _ h => h.elim)⟩
  rcases hk with hk | rfl
  · exact ⟨Nat.lt_of_lt_of_le (h4 k hk).1 ho.size, (h4 k hk).2⟩
  · exact ⟨hg', fun hf => by have := h1.lt k hf; omega, fun hf => by have := h2.lt k hf; omega⟩
theorem ar_call_scr {f : FuncId} {args : Array Value} {E : Ending → Prop} (h : AR w K p p2 S T W) (hc : ∀ F, ScAt W p F S → (∀ k, K k → ¬ F k) → Calls Tryd.prog f args W fun e w' => E e ∧ Hid (Goes p F S' W w')) :
    Calls Tryd.prog f args W fun e w' => E e ∧ Hid (AR w K p p2 S' T w' ∧ KeepB K W w') := by
  obtain ⟨F, G, h1, h2, h3, h4, h5⟩ := h.ex
  refine (hc F h1 (fun k hk => (h4 k hk).2.1)).mono fun e w' ⟨e1, e2⟩ => ⟨e1, ?_⟩
  obtain ⟨F', k1, k2, k3⟩ := e2.out
  refine ⟨⟨⟨F', G, k1, h2.only k2 (fun i hi hf => h3 i hf hi), fun i hi hg => ?_, fun i hi => ⟨Nat.lt_of_lt_of_le (h4 i hi).1 k2.size, fun hf => ?_, (h4 i hi).2.2⟩, fun i hi => ?_⟩, h.o.trans k2 (fun i hi => .inr (h5 i (.inl hi)))⟩, fun g t cs hg hb => hb.only k2 (h4 g hg).2.1⟩
  · rcases k3 i hi with h6 | h6
    · exact h3 i h6 hg
    · have := h2.lt i hg; omega
  · rcases k3 i hf with h6 | h6
    · exact (h4 i hi).2.1 h6
    · have := (h4 i hi).1; omega
  · rcases hi with hi | hi
    · rcases k3 i hi with h6 | h6
      · exact h5 i (.inl h6)
      · exact Nat.le_trans h.o.size h6
    · exact h5 i (.inr hi)
theorem ar_call_doc {f : FuncId} {args : Array Value} {E : Ending → Prop} (h : AR w K p p2 S T W) (hc : ∀ G, DAt W p2 G T → Calls Tryd.prog f args W fun e w' => E e ∧ Hid (DGoes p2 G T' W w')) :
    Calls Tryd.prog f args W fun e w' => E e ∧ Hid (AR w K p p2 S T' w' ∧ KeepB K W w') := by
  obtain ⟨F, G, h1, h2, h3, h4, h5⟩ := h.ex
  refine (hc G h2).mono fun e w' ⟨e1, e2⟩ => ⟨e1, ?_⟩
  obtain ⟨G', k1, k2, k3⟩ := e2.out
  have hp2 := h2.gp
  refine ⟨⟨⟨F, G', h1.only k2 (fun i hi e => h3 i hi (e ▸ hp2)), k1, fun i hi hg => ?_, fun i hi => ⟨Nat.lt_of_lt_of_le (h4 i hi).1 k2.size, (h4 i hi).2.1, fun hf => ?_⟩, fun i hi => ?_⟩, h.o.trans k2 (fun i hi => .inr (hi ▸ h5 p2 (.inr hp2)))⟩, fun g t cs hg hb => hb.only k2 (fun e => (h4 g hg).2.2 (e ▸ hp2))⟩
  · rcases k3 i hg with h6 | h6
    · exact h3 i hi h6
    · have := h1.lt i hi; omega
  · rcases k3 i hf with h6 | h6
    · exact (h4 i hi).2.2 h6
    · have := (h4 i hi).1; omega
  · rcases hi with hi | hi
    · exact h5 i (.inl hi)
    · rcases k3 i hi with h6 | h6
      · exact h5 i (.inr h6)
      · exact Nat.le_trans h.o.size h6
theorem ar_write (h : AR w K p p2 S T W) {A : Option Addr} {n : Nat} (c : Nat) {xs : List UInt8} (hs : Src W A n xs) (hn : n ≤ 1048576) (hA : ∀ ad, A = some ad → K ad.block) :
    Calls Tryd.prog 11 #[.pointer (some ⟨p, 0, none⟩), .slice A n c] W fun e w' => e = .returned (.tuple #[]) ∧ Hid (AR w K p p2 (S.puts xs) T w' ∧ KeepB K W w') :=
  ar_call_scr h fun _ h1 hk => write_any h1 c hs hn (fun _ ad e hf => hk _ (hA ad e) hf)
theorem ar_rput (h : AR w K p p2 S T W) (b : UInt8) :
    Calls Tryd.prog 12 #[.pointer (some ⟨p2, 0, none⟩), .int .u8 (b.toNat : Int)] W fun e w' => e = .returned (.tuple #[]) ∧ Hid (AR w K p p2 S (T.put b) w' ∧ KeepB K W w') :=
  ar_call_doc h fun _ h1 => rput_any h1 b
theorem ar_resize (h : AR w K p p2 S T W) {c R : Nat} (hc1 : 1 ≤ c) (hc2 : c ≤ 60) (hR1 : 1 ≤ R) (hR2 : R ≤ 60) :
    Calls Tryd.prog 14 #[.pointer (some ⟨p, 0, none⟩), .int .i64 (c : Int), .int .i64 (R : Int)] W fun e w' => e = .returned .nilIface ∧ Hid (AR w K p p2 (S.size c R) T w' ∧ KeepB K W w') :=
  ar_call_scr h fun _ h1 _ => (resize_ok h1.pre hc1 hc2 hR1 hR2 (h1.ok.size hc1 hc2 hR1 hR2)).mono fun _ _ ⟨e1, e2⟩ => ⟨e1, Lib.hid (e2.out.wide (fun _ e => e ▸ h1.fp))⟩
theorem ar_rresize (h : AR w K p p2 S T W) {c R : Nat} (hc1 : 1 ≤ c) (hc2 : c ≤ 60) (hR1 : 1 ≤ R) (hR2 : R ≤ 60) :
    Calls Tryd.prog 15 #[.pointer (some ⟨p2, 0, none⟩), .int .i64 (c : Int), .int .i64 (R : Int)] W fun e w' => e = .returned (.int .i64 0) ∧ Hid (AR w K p p2 S (T.size c R) w' ∧ KeepB K W w') :=
  ar_call_doc h fun _ h1 => rresize_ok h1 hc1 hc2 hR1 hR2
end

/-- An act. -/
structure CAc where
  k : Int
  n : Int
  m : Int
  ad : Option Addr
  len : Nat
  cap : Nat
  xs : List UInt8
@[reducible] def CAc.cs (a : CAc) : List Value := [.int .i64 a.k, .int .i64 a.n, .int .i64 a.m, .slice a.ad a.len a.cap]
def In64 (z : Int) : Prop := -9223372036854775808 ≤ z ∧ z ≤ 9223372036854775807
structure CAc.Ok (W : World) (a : CAc) : Prop where
  i1 : In64 a.n
  i2 : In64 a.m
  src : Src W a.ad a.len a.xs
theorem CAc.Ok.same {W W' : World} {a : CAc} (h : a.Ok W) (ho : Only (fun _ => False) W W') : a.Ok W' := ⟨h.i1, h.i2, h.src.only ho (fun _ _ _ h => h)⟩
def CAcAt (W : World) (A : Option Addr) (len : Nat) (l : List CAc) : Prop :=
  l.length = len ∧ ∀ (i : Nat) (x : CAc), l[i]? = some x → (∃ b off, A = some ⟨b, off, none⟩ ∧ b < W.heap.size ∧ W.rangeAt b (off + i * 4) x.cs) ∧ x.Ok W
theorem CAcAt.same {W W' : World} {A : Option Addr} {len : Nat} {l : List CAc} (h : CAcAt W A len l) (ho : Only (fun _ => False) W W') : CAcAt W' A len l :=
  ⟨h.1, fun i x hx => by
    obtain ⟨⟨b, off, e, hb, h1⟩, h2⟩ := h.2 i x hx
    exact ⟨⟨b, off, e, Nat.lt_of_lt_of_le hb ho.size, fun j v hv => ho.cellv (h1 j v hv) (fun h => h)⟩, h2.same ho⟩⟩
theorem open_cacts {H : Type} {enc : TypeId × Value → H} {W : World} {spare : Nat → Bool} {fuel : Nat} {a0 : Option Addr} {len cap : Nat} {x : DataW H × List MemPlace}
    (h : DataW.trod enc Tryd.prog W 0 spare true fuel 23 [.slice a0 len cap] = some x) : len ≤ cap ∧ cap ≤ 9223372036854775807 ∧ ∃ l, CAcAt W a0 len l := by
  obtain ⟨h1, h2, hel⟩ := open_structs Tryd.underlying23 Tryd.underlying36 (by kernel_rfl) (by kernel_rfl) h
  refine ⟨h1, h2, ?_⟩
  have each : ∀ i, i < len → ∃ y : CAc, (∃ b off, a0 = some ⟨b, off, none⟩ ∧ b < W.heap.size ∧ W.rangeAt b (off + i * 4) y.cs) ∧ y.Ok W := by
    intro i hi
    obtain ⟨a, rfl, vs, n, hl, hc, hf⟩ := hel i hi
    replace hl : vs.length = 4 := hl
    match vs, hl, hc, hf with
    | [v0, v1, v2, v3], _, hc, hf =>
      obtain ⟨w0, y0, e0, t0⟩ := hf 0 _ rfl
      obtain ⟨w1, y1, e1, t1⟩ := hf 1 _ rfl
      obtain ⟨w2, y2, e2, t2⟩ := hf 2 _ rfl
      obtain ⟨w3, y3, e3, t3⟩ := hf 3 _ rfl
      obtain rfl : v0 = w0 := by simpa using e0
      obtain rfl : v1 = w1 := by simpa using e1
      obtain rfl : v2 = w2 := by simpa using e2
      obtain rfl : v3 = w3 := by simpa using e3
      replace t0 : DataW.trod enc Tryd.prog W 0 spare true n 3 [v0] = some y0 := t0
      replace t1 : DataW.trod enc Tryd.prog W 0 spare true n 3 [v1] = some y1 := t1
      replace t2 : DataW.trod enc Tryd.prog W 0 spare true n 3 [v2] = some y2 := t2
      replace t3 : DataW.trod enc Tryd.prog W 0 spare true n 34 [v3] = some y3 := t3
      obtain ⟨z0, q0, _, _⟩ := DataW.trod_int Tryd.underlying3 t0
      obtain ⟨z1, q1, _, b1⟩ := DataW.trod_int Tryd.underlying3 t1
      obtain ⟨z2, q2, _, b2⟩ := DataW.trod_int Tryd.underlying3 t2
      obtain ⟨A', n', c', xs, rfl, hs, _, _⟩ := opened_cell t3
      obtain rfl : v0 = .int .i64 z0 := by simpa using q0
      obtain rfl : v1 = .int .i64 z1 := by simpa using q1
      obtain rfl : v2 = .int .i64 z2 := by simpa using q2
      replace hc : ∀ (j : Nat) (v : Value), [Value.int .i64 z0, .int .i64 z1, .int .i64 z2, .slice A' n' c'][j]? = some v → W.cell? (a.add (i * 4 + j)) = some v := hc
      obtain ⟨b, off, spot⟩ := a
      have c0 := hc 0 _ rfl
      have hspot : spot = none := by
        obtain ⟨a2, ha2, vs2, _, hl2, hc2, _⟩ := hel 0 (by omega)
        injection ha2 with ha2
        subst ha2
        replace hl2 : vs2.length = 4 := hl2
        have := hc2 0 _ (List.getElem?_eq_getElem (by omega))
        have := World.cell?_spot this
        simpa [Addr.add] using this
      subst hspot
      have hadd : ∀ q, (⟨b, off, none⟩ : Addr).add q = ⟨b, off + q, none⟩ := fun q => by unfold Addr.add; split <;> simp_all
      refine ⟨⟨z0, z1, z2, A', n', c', xs⟩, ⟨b, off, rfl, ?_, fun j v hv => ?_⟩, bounds_i64 b1, bounds_i64 b2, hs⟩
      · have := World.block_lt_of_cell? W _ c0
        rwa [block_add] at this
      · rw [Nat.add_assoc, ← hadd]
        exact hc j v hv
  obtain ⟨l, h3, h4⟩ := list_of each
  exact ⟨l, h3, h4⟩
theorem size_cact : (Tryd.prog.info? 36).map (·.size) = some 4 := by kernel_rfl
end Go.Proofs.YtgknhojjnnljkaaDoor
