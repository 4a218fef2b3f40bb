/- IacParts: where it stands while it feeds bytes. -/
import Derived.Test.YtpkmndhefadopaaIacAlive
import Derived.Test.YtpkmndhefadopaaSlices
namespace Go.Proofs.Ytpkmndhefadopaa
open Go Go.RowKit
set_option maxRecDepth 100000

/-- The row of all bytes, the machine, the row of tokens. -/
structure PAt (w : World) (p : Nat) (W : World) (av : Value) (cat : List UInt8) (gv : Value) (bs : List UInt8) (ps : List TkP) : Prop where
  only : Only (fun _ => False) w W
  all : Body W w.heap.size av cat
  ms : IsMs W p (feeds .zero bs).2
  toks : Toks W w.heap.size gv ps
  told : ps.map TkP.t = (feeds .zero bs).1
  far : w.heap.size ≤ p
  sep : ∀ x ∈ ps, ∀ k, x.val.ownBlock = some k → av.ownBlock ≠ some k
section
variable {w W w1 w2 w3 : World} {p : Nat} {av av' gv gv' : Value} {cat bs : List UInt8} {ps : List TkP} {c : UInt8} {m' : Ms} {cs : List Value}
theorem PAt.few (h : PAt w p W av cat gv bs ps) : ps.length ≤ bs.length := by
  have := feeds_length .zero bs
  rw [← h.told, List.length_map] at this
  exact this
theorem PAt.mid (h : PAt w p W av cat gv bs ps) (ho1 : Only (· = p) W w1) (ho2 : Only (fun i => w1.heap.size ≤ i) w1 w2) (hm : IsMs w1 p m') : Body w2 w.heap.size av cat ∧ IsMs w2 p m' ∧ Toks w2 w.heap.size gv ps ∧ Only (fun _ => False) w w2 := by
  have hT := h.toks.ms ho1 h.ms
  have hA : Body w1 w.heap.size av cat := by
    obtain ⟨_, _, hb, _⟩ := h.ms
    exact own_only h.all ho1 (own_ne h.all hb (by decide))
  have hp := hm.lt
  exact ⟨own_only hA ho2 (fun q hq => by have := (hA.lt q hq).2; omega), hm.only ho2 (by omega), hT.only ho2 (fun q hq => by have := (hT.row.lt q hq).2; omega) (fun x hx q hq => by have := ((hT.bodies x hx).lt q hq).2; omega),
    (h.only.trans ho1 (fun i hi => .inr (by rw [hi]; exact h.far))).trans ho2 (fun i hi => .inr (by have := h.only.size; have := ho1.size; omega))⟩
theorem feeds_snoc (bs : List UInt8) (c : UInt8) : feeds .zero (bs ++ [c]) = ((feeds .zero bs).1 ++ (feed (feeds .zero bs).2 c).2.toList, (feed (feeds .zero bs).2 c).1) := by
  rw [feeds_append, feeds_one]
theorem PAt.stay (h : PAt w p W av cat gv bs ps) (hf : feed (feeds .zero bs).2 c = (m', none)) (hm : IsMs w1 p m') (ho1 : Only (· = p) W w1) (ho2 : Only (fun i => w1.heap.size ≤ i) w1 w2) : PAt w p w2 av cat gv (bs ++ [c]) ps := by
  obtain ⟨h1, h2, h3, h4⟩ := h.mid ho1 ho2 hm
  refine ⟨h4, h1, ?_, h3, ?_, h.far, h.sep⟩
  · rw [feeds_snoc, hf]
    exact h2
  · rw [feeds_snoc, hf, h.told]
    simp
theorem PAt.more (h : PAt w p W av cat gv bs ps) {t : Tk} (hf : feed (feeds .zero bs).2 c = (m', some t)) (hm : IsMs w1 p m') (ho1 : Only (· = p) W w1) (ho2 : Only (fun i => w1.heap.size ≤ i) w1 w2) (x : TkP) (hxt : x.t = t) (hxb' : Body w1 W.heap.size x.val x.t.body)
    (hrow : w3.ownsRow w.heap.size 35 5 gv' (ps.length + 1) (flatTk ps ++ x.cells)) (hg : w2.grownBy w3 gv.ownBlock) : PAt w p w3 av cat gv' (bs ++ [c]) (ps ++ [x]) := by
  obtain ⟨h1, h2, h3, h4⟩ := h.mid ho1 ho2 hm
  have hxb : Body w1 w.heap.size x.val x.t.body := own_mono hxb' h.only.size
  have hb2 : Body w2 w.heap.size x.val x.t.body := own_only hxb ho2 (fun q hq => by have := (hxb.lt q hq).2; omega)
  have hO3 : Only (fun i => gv.ownBlock = some i) w2 w3 := Only.grown (Only.refl _ _) hg (fun k hk => .inl hk)
  refine ⟨h4.trans hO3 (fun i hi => .inr (h3.row.lt i hi).1), own_kept h1 h3.row (by decide) hg, ?_, h3.more x hb2 hrow hg, ?_, h.far, fun z hz k hk => ?_⟩
  · rw [feeds_snoc, hf]
    obtain ⟨h5, junk, hb, h6⟩ := h2
    exact IsMs.only ⟨h5, junk, hb, h6⟩ hO3 (fun hs => own_ne h3.row hb (by decide) _ hs rfl)
  · rw [feeds_snoc, hf, List.map_append, h.told, List.map_singleton, hxt]
    rfl
  · rcases List.mem_append.1 hz with hz | hz
    · exact h.sep z hz k hk
    · obtain rfl := List.mem_singleton.1 hz
      intro ha
      have h5 := (hxb'.lt k hk).1
      have h6 := (h.all.lt k ha).2
      omega
theorem PAt.append (h : PAt w p W av cat gv bs ps) (ys : List UInt8) (hrow : w1.ownsRow w.heap.size 5 1 av' (cat.length + ys.length) (cat.map B8 ++ ys.map B8)) (hg : W.grownBy w1 av.ownBlock) (hb : ∀ k, av'.ownBlock = some k → av.ownBlock = some k ∨ W.heap.size ≤ k) : PAt w p w1 av' (cat ++ ys) gv bs ps := by
  have hO : Only (fun i => av.ownBlock = some i) W w1 := Only.grown (Only.refl _ _) hg (fun k hk => .inl hk)
  refine ⟨h.only.trans hO (fun i hi => .inr (h.all.lt i hi).1), ?_, ?_, ⟨own_kept h.toks.row h.all (by decide) hg, fun x hx => own_only (h.toks.bodies x hx) hO (fun k hk => h.sep x hx k hk)⟩, h.told, h.far, fun x hx k hk ha => ?_⟩
  · unfold Body
    rw [List.length_append, List.map_append]
    exact hrow
  · obtain ⟨h5, junk, hbm, h6⟩ := h.ms
    exact IsMs.only ⟨h5, junk, hbm, h6⟩ hO (fun hs => own_ne h.all hbm (by decide) _ hs rfl)
  · rcases hb k ha with h1 | h1
    · exact h.sep x hx k hk h1
    · have := ((h.toks.bodies x hx).lt k hk).2
      omega
end

/-- A source of bytes, as an append asks it. -/
theorem Src.news {w : World} {A : Option Addr} {n : Nat} {xs : List UInt8} (h : Src w A n xs) (hn : 0 < n) : ∃ ad, A = some ad ∧ ∀ (j : Nat) (u : Value), (xs.map B8)[j]? = some u → w.cell? (ad.add j) = some u := by
  obtain ⟨ad, he, hc⟩ := h.2 hn
  refine ⟨ad, he, fun j u hu => ?_⟩
  rw [List.getElem?_map] at hu
  obtain ⟨y, hy, rfl⟩ := Option.map_eq_some_iff.1 hu
  exact hc j y hy
theorem b8_one (xs : List UInt8) : ∀ u ∈ xs.map B8, u.oneCell' = true := by
  intro u hu
  obtain ⟨y, _, rfl⟩ := List.mem_map.1 hu
  rfl

def catOf (l : List BytesV) : List UInt8 := l.flatMap BytesV.xs
theorem catOf_snoc (l : List BytesV) (k : Nat) (x : BytesV) (h : l[k]? = some x) : catOf (l.take (k + 1)) = catOf (l.take k) ++ x.xs := by
  unfold catOf
  rw [List.take_add_one, h, Option.toList_some, List.flatMap_append]
  simp
end Go.Proofs.Ytpkmndhefadopaa
