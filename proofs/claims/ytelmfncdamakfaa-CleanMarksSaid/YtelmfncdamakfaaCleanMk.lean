/- Layer 9's marks, as plain functions: a mark at a byte that is deaf already changes nothing; marks never change what isn't data. -/
import Derived.Test.YtelmfncdamakfaaCleanDoc
import Derived.Test.YtelmfncdamakfaaCleanWalk
namespace Go.Proofs.Ytelmfncdamakfaa

/-- How many tokens aren't data. -/
def othersN (ts : List Tk) : Nat := (ts.filter fun t => !isData t).length
theorem others_feeds : ∀ (l : List Bt) (k : Cl) (p : Nat), ((feeds9 k p l).1.map Prod.fst).filter (fun t => !isData t) = (feeds k.m (l.map Bt.c)).1.filter (fun t => !isData t)
  | [], _, _ => rfl
  | x :: l, k, p => by
    have ih := others_feeds l (feed9 k x).1 (p + 1)
    simp only [feeds9, List.map_append, List.filter_append, List.map_cons, feeds]
    rw [ih]
    unfold feed9
    cases h : feed k.m x.c with
    | mk m o =>
      cases o with
      | none => simp
      | some t =>
        simp only [Option.toList_some]
        congr 1
        cases hd : isData t with
        | false => simp [stays9, hd]
        | true =>
          split <;> simp [hd]
theorem others_same {l1 l2 : List Bt} (h : l1.map Bt.c = l2.map Bt.c) : othersN ((feeds9 .zero 0 l1).1.map Prod.fst) = othersN ((feeds9 .zero 0 l2).1.map Prod.fst) := by
  unfold othersN
  rw [others_feeds, others_feeds, h]

theorem feed9_deaf {k : Cl} {c : UInt8} {m1 m2 raw : Bool} (h : k.deaf = true) : feed9 k ⟨c, m1, raw⟩ = feed9 k ⟨c, m2, raw⟩ := by
  unfold feed9
  rw [h]
  rfl
theorem others_length (ts : List Tk) : othersN ts ≤ ts.length := List.length_filter_le _ _

theorem mkd_at {n q : Nat} (zs : List Int) (h : q < n) : (mkd n zs)[q]? = some (decide ((q : Int) ∈ zs)) := by
  unfold mkd
  rw [List.getElem?_map, List.getElem?_range h]
  rfl
/-- A mark more at a place that is deaf already. -/
theorem marks_same {xs : List UInt8} {i j : Nat} (hj : j < xs.length) (h : (feeds9 .zero 0 ((bts xs (mkd xs.length [(i : Int)]) false).take j)).2.deaf = true ∨ i = j) :
    (feeds9 .zero 0 (bts xs (mkd xs.length [(i : Int)]) false)).1 = (feeds9 .zero 0 (bts xs (mkd xs.length [(i : Int), (j : Int)]) false)).1 := by
  obtain ⟨l1, hl1⟩ : ∃ l1, l1 = bts xs (mkd xs.length [(i : Int)]) false := ⟨_, rfl⟩
  obtain ⟨l2, hl2⟩ : ∃ l2, l2 = bts xs (mkd xs.length [(i : Int), (j : Int)]) false := ⟨_, rfl⟩
  have n1 : l1.length = xs.length := by rw [hl1, bts_length (mkd_length _ _)]
  have n2 : l2.length = xs.length := by rw [hl2, bts_length (mkd_length _ _)]
  have at1 : ∀ (q : Nat) (x : UInt8), xs[q]? = some x → l1[q]? = some (Bt.mk x (decide ((q : Int) ∈ [(i : Int)])) false) := fun q x hq => by
    have hlt := (List.getElem?_eq_some_iff.1 hq).1
    rw [hl1]
    exact bts_at hq (mkd_at _ hlt)
  have at2 : ∀ (q : Nat) (x : UInt8), xs[q]? = some x → l2[q]? = some (Bt.mk x (decide ((q : Int) ∈ [(i : Int), (j : Int)])) false) := fun q x hq => by
    have hlt := (List.getElem?_eq_some_iff.1 hq).1
    rw [hl2]
    exact bts_at hq (mkd_at _ hlt)
  have hne : ∀ q, q ≠ j → l1[q]? = l2[q]? := fun q hq => by
    by_cases hlt : q < xs.length
    · have hx : xs[q]? = some xs[q] := List.getElem?_eq_getElem hlt
      rw [at1 q _ hx, at2 q _ hx]
      congr 2
      apply decide_eq_decide.2
      simp
      omega
    · rw [List.getElem?_eq_none (by omega), List.getElem?_eq_none (by omega)]
  rw [← hl1, ← hl2]
  rw [← hl1] at h
  by_cases hij : i = j
  · have : l1 = l2 := by
      apply List.ext_getElem?
      intro q
      by_cases hq : q = j
      · subst hq
        have hx : xs[q]? = some xs[q] := List.getElem?_eq_getElem hj
        rw [at1 q _ hx, at2 q _ hx]
        congr 2
        apply decide_eq_decide.2
        simp
        omega
      · exact hne q hq
    rw [this]
  · have hd := h.resolve_right hij
    have ht : l1.take j = l2.take j := by
      apply List.ext_getElem?
      intro q
      rw [List.getElem?_take, List.getElem?_take]
      split
      · exact hne q (by omega)
      · rfl
    have hdr : l1.drop (j + 1) = l2.drop (j + 1) := by
      apply List.ext_getElem?
      intro q
      rw [List.getElem?_drop, List.getElem?_drop]
      exact hne _ (by omega)
    have hx : xs[j]? = some xs[j] := List.getElem?_eq_getElem hj
    have e1 : l1 = l1.take j ++ (⟨xs[j], decide ((j : Int) ∈ [(i : Int)]), false⟩ :: l1.drop (j + 1)) := by
      conv => lhs; rw [← List.take_append_drop j l1, at_drop (at1 j _ hx)]
    have e2 : l2 = l2.take j ++ (⟨xs[j], decide ((j : Int) ∈ [(i : Int), (j : Int)]), false⟩ :: l2.drop (j + 1)) := by
      conv => lhs; rw [← List.take_append_drop j l2, at_drop (at2 j _ hx)]
    rw [e1, e2, ← ht, ← hdr, feeds9_append, feeds9_append]
    simp only [feeds9]
    rw [feed9_deaf (m2 := decide ((j : Int) ∈ [(i : Int), (j : Int)])) hd]
end Go.Proofs.Ytelmfncdamakfaa
