/- The order of timers, as plain mathematics. -/
import Derived.Test.YtdcjmfbdmejjjaaDoorClosures
namespace Go.Proofs.YtdcjmfbdmejjjaaDoor

def Lt (x y : Tm) : Prop := x.2 < y.2 ∨ (x.2 = y.2 ∧ x.1 < y.1)
theorem Lt.trans {x y z : Tm} (h : Lt x y) (k : Lt y z) : Lt x z := by unfold Lt at *; omega
theorem Lt.asymm {x y : Tm} (h : Lt x y) : ¬ Lt y x := by unfold Lt at *; omega
theorem Lt.tri (x y : Tm) : Lt x y ∨ x = y ∨ Lt y x := by
  obtain ⟨a, b⟩ := x
  obtain ⟨c, d⟩ := y
  simp only [Lt, Prod.mk.injEq]
  omega
theorem cmp_lt (x y : Tm) : cmpTm x y < 0 ↔ Lt x y := by
  unfold cmpTm cmpInt Lt
  by_cases h : x.2 = y.2
  · rw [if_pos h]
    split <;> (try split) <;> omega
  · rw [if_neg h]
    split <;> (try split) <;> omega
theorem cmp_ge (x y : Tm) : 0 ≤ cmpTm x y ↔ ¬ Lt x y := by rw [← cmp_lt]; omega

structure Good (ts : List Tm) : Prop where
  sorted : ts.Pairwise Lt
  keys : (ts.map (·.1)).Nodup

theorem Good.nil : Good [] := ⟨List.Pairwise.nil, List.nodup_nil⟩
theorem Good.mono_cmp {ts : List Tm} (h : Good ts) (y : Tm) (i j : Nat) (x z : Tm) (hij : i ≤ j) (hx : ts[i]? = some x) (hz : ts[j]? = some z) (hc : cmpTm z y < 0) : cmpTm x y < 0 := by
  rw [cmp_lt] at *
  rcases Nat.lt_or_ge i j with hlt | hge
  · obtain ⟨hi, rfl⟩ := List.getElem?_eq_some_iff.1 hx
    obtain ⟨hj, rfl⟩ := List.getElem?_eq_some_iff.1 hz
    exact (List.pairwise_iff_getElem.1 h.sorted i j hi hj hlt).trans hc
  · obtain rfl : i = j := by omega
    rw [hx] at hz
    cases hz
    exact hc
theorem Good.sub {ts us : List Tm} (h : Good ts) (hs : us.Sublist ts) : Good us := ⟨h.sorted.sublist hs, h.keys.sublist (hs.map _)⟩
theorem Good.filter {ts : List Tm} (h : Good ts) (p : Tm → Bool) : Good (ts.filter p) := h.sub List.filter_sublist
theorem perm_in (rest : List Tm) (y : Tm) (i : Nat) : (rest.take i ++ y :: rest.drop i).Perm (y :: rest) := by
  have h1 : (rest.take i ++ y :: rest.drop i).Perm (y :: (rest.take i ++ rest.drop i)) := List.perm_middle
  rwa [List.take_append_drop] at h1
theorem Good.insert {rest : List Tm} (h : Good rest) (y : Tm) (hk : ∀ x ∈ rest, x.1 ≠ y.1) (i : Nat) (lo : ∀ (j : Nat) (x : Tm), j < i → rest[j]? = some x → cmpTm x y < 0) (hi : ∀ (j : Nat) (x : Tm), i ≤ j → rest[j]? = some x → 0 ≤ cmpTm x y) :
    Good (rest.take i ++ y :: rest.drop i) := by
  have hlo : ∀ x ∈ rest.take i, Lt x y := by
    intro x hx
    obtain ⟨j, hj⟩ := List.getElem?_of_mem hx
    rw [List.getElem?_take] at hj
    split at hj
    · exact (cmp_lt _ _).1 (lo j x (by assumption) hj)
    · cases hj
  have hhi : ∀ x ∈ rest.drop i, Lt y x := by
    intro x hx
    obtain ⟨j, hj⟩ := List.getElem?_of_mem hx
    rw [List.getElem?_drop] at hj
    have h1 := (cmp_ge _ _).1 (hi _ x (by omega) hj)
    rcases Lt.tri x y with h2 | h2 | h2
    · exact absurd h2 h1
    · exact absurd (by rw [h2]) (hk x (List.mem_of_mem_drop hx))
    · exact h2
  refine ⟨List.pairwise_append.2 ⟨h.sorted.sublist (List.take_sublist _ _), List.pairwise_cons.2 ⟨hhi, h.sorted.sublist (List.drop_sublist _ _)⟩, fun x hx z hz => ?_⟩, ?_⟩
  · rcases List.mem_cons.1 hz with rfl | hz
    · exact hlo x hx
    · exact (hlo x hx).trans (hhi z hz)
  · refine (((perm_in rest y i).map (·.1)).nodup_iff).2 ?_
    rw [List.map_cons, List.nodup_cons]
    refine ⟨fun hm => ?_, h.keys⟩
    obtain ⟨x, hx, he⟩ := List.mem_map.1 hm
    exact hk x hx he

/-- The first of all. -/
def IsMin (l : List Tm) (x : Tm) : Prop := x ∈ l ∧ ∀ y ∈ l, y = x ∨ Lt x y
theorem IsMin.unique {l : List Tm} {x y : Tm} (h : IsMin l x) (k : IsMin l y) : x = y := by
  rcases h.2 y k.1 with h1 | h1
  · exact h1.symm
  · rcases k.2 x h.1 with h2 | h2
    · exact h2
    · exact absurd h1 h2.asymm
theorem Good.head {x : Tm} {ts l : List Tm} (h : Good (x :: ts)) (hp : l.Perm (x :: ts)) : IsMin l x := by
  refine ⟨hp.mem_iff.2 (List.mem_cons_self ..), fun y hy => ?_⟩
  rcases List.mem_cons.1 (hp.mem_iff.1 hy) with h1 | h1
  · exact .inl h1
  · exact .inr ((List.pairwise_cons.1 h.sorted).1 y h1)

/-- One key, one timer. -/
theorem one_key {l : List Tm} (h : (l.map (·.1)).Nodup) {x y : Tm} (hx : x ∈ l) (hy : y ∈ l) (he : x.1 = y.1) : x = y := by
  induction l with
  | nil => cases hx
  | cons z l ih =>
    rw [List.map_cons, List.nodup_cons] at h
    rcases List.mem_cons.1 hx with hx | hx
    · rcases List.mem_cons.1 hy with hy | hy
      · rw [hx, hy]
      · exact absurd (List.mem_map.2 ⟨y, hy, by rw [← he, hx]⟩) h.1
    · rcases List.mem_cons.1 hy with hy | hy
      · exact absurd (List.mem_map.2 ⟨x, hx, by rw [he, hy]⟩) h.1
      · exact ih h.2 hx hy

/-- What is due of sorted timers are the first ones. -/
theorem due_first {ts : List Tm} (h : ts.Pairwise Lt) (t : Int) (k : Nat) (hk : ∀ x ∈ ts.take k, x.2 ≤ t) (hr : ∀ x, ts[k]? = some x → t < x.2) :
    (ts.filter fun x => decide (x.2 ≤ t)) = ts.take k ∧ (ts.filter fun x => !decide (x.2 ≤ t)) = ts.drop k := by
  have hd : ∀ x ∈ ts.drop k, t < x.2 := by
    intro x hx
    cases hg : ts[k]? with
    | none =>
      rw [List.drop_eq_nil_of_le (List.getElem?_eq_none_iff.1 hg)] at hx
      cases hx
    | some y =>
      have hy := hr y hg
      obtain ⟨hkl, hge⟩ := List.getElem?_eq_some_iff.1 hg
      rw [List.drop_eq_getElem_cons hkl, hge] at hx
      rcases List.mem_cons.1 hx with rfl | hx
      · exact hy
      · have hs : (ts.drop k).Pairwise Lt := h.sublist (List.drop_sublist _ _)
        rw [List.drop_eq_getElem_cons hkl, hge] at hs
        have := (List.pairwise_cons.1 hs).1 x hx
        unfold Lt at this
        omega
  have f1 : (ts.take k).filter (fun x => decide (x.2 ≤ t)) = ts.take k := List.filter_eq_self.2 (fun x hx => by simpa using hk x hx)
  have f2 : (ts.drop k).filter (fun x => decide (x.2 ≤ t)) = [] := List.filter_eq_nil_iff.2 (fun x hx => by have := hd x hx; simp; omega)
  have f3 : (ts.take k).filter (fun x => !decide (x.2 ≤ t)) = [] := List.filter_eq_nil_iff.2 (fun x hx => by have := hk x hx; simpa using this)
  have f4 : (ts.drop k).filter (fun x => !decide (x.2 ≤ t)) = ts.drop k := List.filter_eq_self.2 (fun x hx => by have := hd x hx; simp; omega)
  have g1 := List.filter_append (p := fun x : Tm => decide (x.2 ≤ t)) (ts.take k) (ts.drop k)
  have g2 := List.filter_append (p := fun x : Tm => !decide (x.2 ≤ t)) (ts.take k) (ts.drop k)
  rw [List.take_append_drop, f1, f2, List.append_nil] at g1
  rw [List.take_append_drop, f3, f4, List.nil_append] at g2
  exact ⟨g1, g2⟩
end Go.Proofs.YtdcjmfbdmejjjaaDoor
