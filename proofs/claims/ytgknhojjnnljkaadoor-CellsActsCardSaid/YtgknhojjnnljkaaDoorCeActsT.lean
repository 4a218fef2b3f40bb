/- CellsActs: what stands at a round's head, and behind an act. -/
import Derived.Test.YtgknhojjnnljkaaDoorCeActsF
import Derived.Test.YtgknhojjnnljkaaDoorCePartsO
import Derived.Test.YtgknhojjnnljkaaDoorTextsTwo
namespace Go.Proofs.YtgknhojjnnljkaaDoor
open Go Go.ChangeShapes Go.WideShapes Go.ChangeAt Go.RowKit
set_option maxRecDepth 100000
set_option maxHeartbeats 4000000

/-- What stands at a round's head. -/
structure ARnd (w : World) (p p2 : Nat) (f0 f1 : Int) (W : World) : Prop where
  ar : ∃ S, AR w (fun k => k = w.heap.size + 1) p p2 S S W ∧ S.c ≤ 40 ∧ S.rows.length ≤ 40
  b : Blk W (w.heap.size + 1) 22 [.int .i64 f0, .int .i64 f1]
/-- Both new. -/
theorem ar_new {w W1 W2 W3 : World} {c R p p2 g cap : Nat} {F : Nat → Prop} (hc1 : 1 ≤ c) (hc2 : c ≤ 60) (hR1 : 1 ≤ R) (hR2 : R ≤ 60) (h1 : Only (fun _ => False) w W1) (hz : w.heap.size + 1 < W1.heap.size)
    (hs : ScAt W2 p F (newSc c R)) (hF : ∀ k, F k → W1.heap.size ≤ k) (h2 : Only (fun _ => False) W1 W2) (hp : W2.heap.size ≤ p2)
    (hb : Blk W3 p2 45 [.int .i64 (c : Int), .int .i64 0, .int .i64 0, .slice (some ⟨g, 0, none⟩) R cap]) (hn : W3.ownsRow W2.heap.size 9 1 (.slice (some ⟨g, 0, none⟩) R cap) R (bvs c R)) (h3 : Only (fun _ => False) W2 W3) :
    AR w (fun k => k = w.heap.size + 1) p p2 (newSc c R) (newSc c R) W3 := by
  obtain ⟨G, hd, hG⟩ := dat_of (x := 0) (y := 0) (newSc_ok hc1 hc2 hR1 hR2) List.length_replicate rfl hb hn hp
  have z2 := h2.size
  have z3 := h3.size
  refine ⟨⟨F, G, hs.same h3, hd, fun k hk hk' => ?_, fun k hk => ⟨?_, fun hf => ?_, fun hf => ?_⟩, fun k hk => ?_⟩, (h1.trans h2 (fun _ h => h.elim)).trans h3 (fun _ h => h.elim)⟩
  · have := hs.lt k hk
    have := hG k hk'
    omega
  · omega
  · have := hF k hf
    omega
  · have := hG k hf
    omega
  · rcases hk with hk | hk
    · have := hF k hk
      omega
    · have := hG k hk
      omega
/-- What stands behind an act. -/
structure ATail (w : World) (p p2 : Nat) (f0 f1 : Int) (g : Nat) (x : CAc) (S : Sc) (W : World) : Prop where
  ar : AR w (fun k => k = w.heap.size + 1 ∨ k = g) p p2 S S W
  s1 : S.c ≤ 40
  s2 : S.rows.length ≤ 40
  b : Blk W (w.heap.size + 1) 22 [.int .i64 f0, .int .i64 f1]
  x : Blk W g 36 x.cs
section
variable {w : World} {p p2 : Nat} {f0 f1 : Int} {g : Nat} {x : CAc} {S : Sc} {W W' : World}
theorem ATail.same (h : ATail w p p2 f0 f1 g x S W) (ho : Only (fun _ => False) W W') : ATail w p p2 f0 f1 g x S W' :=
  ⟨h.ar.same ho, h.s1, h.s2, h.b.only ho (fun h => h), h.x.only ho (fun h => h)⟩
theorem ATail.rnd (h : ATail w p p2 f0 f1 g x S W) : ARnd w p p2 f0 f1 W := ⟨⟨S, h.ar.weaken (fun _ h => .inl h), h.s1, h.s2⟩, h.b⟩
theorem ATail.scr (h : ATail w p p2 f0 f1 g x S W) : ∃ F, ScAt W p F S := by
  obtain ⟨F, G, h1, _⟩ := h.ar.ex
  exact ⟨F, h1⟩
theorem ATail.doc (h : ATail w p p2 f0 f1 g x S W) : ∃ G, DAt W p2 G S := by
  obtain ⟨F, G, _, h1, _⟩ := h.ar.ex
  exact ⟨G, h1⟩
/-- The act in a variable of its own. -/
theorem ATail.new (h : AR w (fun k => k = w.heap.size + 1) p p2 S S W) (h1 : S.c ≤ 40) (h2 : S.rows.length ≤ 40) (hb : Blk W (w.heap.size + 1) 22 [.int .i64 f0, .int .i64 f1]) (x : CAc) :
    ATail w p p2 f0 f1 W.heap.size x S (W.alloc (.cells x.cs.toArray 36)) :=
  ⟨h.more ((Only.refl _ _).alloc _) (Nat.le_refl _) (by simp), h1, h2, hb.alloc _, Blk.new W _ x.cs⟩
end
/-- The copy that truchmannum.Bytes made, as it is read. -/
theorem src_copy {W : World} {N n : Nat} {xs : List UInt8} {tl : List Value} (hb : Blk W N 5 (xs.map B8 ++ tl)) (hl : xs.length = n) : Src W (some ⟨N, 0, none⟩) n xs :=
  ⟨hl, fun _ => ⟨_, rfl, fun j x hx => by
    rw [at_add, hb.cell, List.getElem?_append_left (by rw [List.length_map]; exact (List.getElem?_eq_some_iff.1 hx).1), List.getElem?_map, hx]
    rfl⟩⟩
/-- What makes the law return in the midst of the acts. -/
def early (x : CAc) : Prop := 200 < x.len ∨ (x.k = 1 ∧ ((40 < x.n ∧ x.n ≤ 200) ∨ (40 < x.m ∧ x.m ≤ 200)))
instance (x : CAc) : Decidable (early x) := by unfold early; infer_instance
end Go.Proofs.YtgknhojjnnljkaaDoor
