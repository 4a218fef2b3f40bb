/- Layer 11's document as plain functions: rows of options that were ever spoken of. -/
import Derived.Test.YthbmhoeaimdjmaaDoorQsTb
namespace Go.Proofs.YthbmhoeaimdjmaaDoor

/-- A row: a side, an option, its state. -/
structure Rq where
  s : Nat
  o : Nat
  q : Qs
def keyR (r : Rq) (s o : Int) : Bool := decide ((r.s : Int) = s) && decide ((r.o : Int) = o)
def lookR : List Rq → Int → Int → Qs
  | [], _, _ => .no
  | r :: l, s, o => if keyR r s o then r.q else lookR l s o
def dropR (l : List Rq) (s o : Int) : List Rq := l.filter fun r => !keyR r s o
def calmR (l : List Rq) : Bool := l.all fun r => decide (r.q.kind ≤ 1)
/-- What the rows say. -/
structure RowsAre (l : List Rq) (f : Nat → Nat → Qs) : Prop where
  look : ∀ (s o : Nat), s < 2 → o < 256 → lookR l s o = f s o
  valid : ∀ r ∈ l, r.s < 2 ∧ r.o < 256 ∧ lookR l r.s r.o = r.q
theorem rowsAre_nil : RowsAre [] (fun _ _ => .no) := ⟨fun _ _ _ _ => rfl, fun _ h => by cases h⟩
theorem keyR_iff {r : Rq} {s o : Nat} : keyR r s o = true ↔ r.s = s ∧ r.o = o := by simp [keyR]; omega
theorem lookR_append (l m : List Rq) (s o : Int) (h : ∀ r ∈ l, keyR r s o = false) : lookR (l ++ m) s o = lookR m s o := by
  induction l with
  | nil => rfl
  | cons r l ih => rw [List.cons_append, lookR, h r (List.mem_cons_self ..)]; exact ih fun r hr => h r (List.mem_cons_of_mem _ hr)
theorem lookR_drop (l : List Rq) {s o s' o' : Int} (m : List Rq) (h : ¬ (s' = s ∧ o' = o)) : lookR (dropR l s o ++ m) s' o' = lookR (l ++ m) s' o' := by
  induction l with
  | nil => rfl
  | cons r l ih =>
    unfold dropR at ih ⊢
    rw [List.filter_cons]
    by_cases hk : keyR r s o = true
    · have hk' : keyR r s' o' = false := by
        simp only [keyR, Bool.and_eq_true, decide_eq_true_eq] at hk
        simp only [keyR, Bool.and_eq_false_iff, decide_eq_false_iff_not]
        by_cases h1 : (r.s : Int) = s'
        · exact .inr fun h2 => h ⟨by omega, by omega⟩
        · exact .inl h1
      simp only [hk, Bool.not_true, Bool.false_eq_true, if_false, List.cons_append, lookR, hk']
      exact ih
    · have hk := Bool.eq_false_iff.2 hk
      simp only [hk, Bool.not_false, if_true, List.cons_append, lookR]
      rw [ih]
theorem lookR_snoc (l : List Rq) (s o : Int) (r : Rq) : lookR (l ++ [r]) s o = (if l.any (fun x => keyR x s o) then lookR l s o else if keyR r s o then r.q else .no) := by
  induction l with
  | nil => rfl
  | cons x l ih =>
    rw [List.cons_append, lookR, List.any_cons, lookR]
    by_cases h : keyR x s o = true
    · simp [h]
    · simp only [Bool.eq_false_iff.2 h, Bool.false_eq_true, if_false, Bool.false_or]; exact ih
theorem RowsAre.none {l : List Rq} {f : Nat → Nat → Qs} (h : RowsAre l f) {s o : Int} (hso : ¬ ((s = 0 ∨ s = 1) ∧ 0 ≤ o ∧ o ≤ 255)) : lookR l s o = .no := by
  have : ∀ r ∈ l, keyR r s o = false := fun r hr => by
    obtain ⟨h1, h2, _⟩ := h.valid r hr
    simp only [keyR, Bool.and_eq_false_iff, decide_eq_false_iff_not]
    by_cases e : (r.s : Int) = s
    · exact .inr fun e2 => hso ⟨by omega, by omega, by omega⟩
    · exact .inl e
  have e := lookR_append l [] s o this
  rw [List.append_nil] at e
  exact e
theorem RowsAre.get {l : List Rq} {t : Tb} (h : RowsAre l t.st) (s o : Int) : lookR l s o = t.get s o := by
  unfold Tb.get
  split
  · next hso =>
    have := h.look s.toNat o.toNat (by omega) (by omega)
    rwa [Int.toNat_of_nonneg (by omega), Int.toNat_of_nonneg (by omega)] at this
  · next hso => exact h.none hso
theorem RowsAre.set {l : List Rq} {f : Nat → Nat → Qs} (h : RowsAre l f) {s o : Nat} (hs : s < 2) (ho : o < 256) (q : Qs) : RowsAre (dropR l s o ++ [⟨s, o, q⟩]) (setQ f s o q) := by
  have hnew : lookR (dropR l s o ++ [⟨s, o, q⟩]) s o = q := by
    rw [lookR_append _ _ _ _ (fun r hr => by
      have := (List.mem_filter.1 hr).2
      simpa using this)]
    simp [lookR, keyR]
  have hold : ∀ s' o' : Nat, ¬ (s' = s ∧ o' = o) → lookR (dropR l s o ++ [⟨s, o, q⟩]) s' o' = lookR l s' o' := fun s' o' e => by
    rw [lookR_drop l _ (by omega), lookR_snoc]
    by_cases ha : (l.any fun x => keyR x s' o') = true
    · rw [if_pos ha]
    · rw [if_neg ha, if_neg (by rw [keyR_iff]; exact fun h => e ⟨h.1.symm, h.2.symm⟩)]
      have e2 := lookR_append l [] s' o' (fun r hr => Bool.eq_false_iff.2 fun hk => ha (List.any_eq_true.2 ⟨r, hr, hk⟩))
      rw [List.append_nil] at e2
      exact e2.symm
  refine ⟨fun s' o' hs' ho' => ?_, fun r hr => ?_⟩
  · unfold setQ
    by_cases e : s' = s ∧ o' = o
    · rw [if_pos e, e.1, e.2]; exact hnew
    · rw [if_neg e, hold s' o' e]; exact h.look s' o' hs' ho'
  · rcases List.mem_append.1 hr with hr | hr
    · obtain ⟨h1, h2⟩ := List.mem_filter.1 hr
      obtain ⟨h3, h4, h5⟩ := h.valid r h1
      refine ⟨h3, h4, ?_⟩
      rw [hold r.s r.o (fun e => by
        have : keyR r s o = true := keyR_iff.2 e
        rw [this] at h2
        cases h2)]
      exact h5
    · simp only [List.mem_cons, List.not_mem_nil, or_false] at hr
      subst hr
      exact ⟨hs, ho, hnew⟩
theorem RowsAre.calm {l : List Rq} {f : Nat → Nat → Qs} (h : RowsAre l f) : calmR l = true ↔ ∀ s o, s < 2 → o < 256 → (f s o).kind ≤ 1 := by
  unfold calmR
  rw [List.all_eq_true]
  constructor
  · intro ha s o hs ho
    rw [← h.look s o hs ho]
    by_cases hx : ∃ r ∈ l, keyR r s o = true
    · obtain ⟨r, hr, hk⟩ := hx
      obtain ⟨e1, e2⟩ := keyR_iff.1 hk
      rw [← e1, ← e2, (h.valid r hr).2.2]
      exact of_decide_eq_true (ha r hr)
    · have := lookR_append l [] s o (fun r hr => Bool.eq_false_iff.2 fun hk => hx ⟨r, hr, hk⟩)
      rw [List.append_nil] at this
      rw [this]
      exact Nat.zero_le _
  · intro hf r hr
    obtain ⟨h1, h2, h3⟩ := h.valid r hr
    have := hf r.s r.o h1 h2
    rw [← h.look _ _ h1 h2, h3] at this
    exact decide_eq_true this
/-- The options that are on. -/
def onR (f : Nat → Nat → Qs) (s : Nat) : List Int := ((List.range 256).filter fun o => decide (f s o = .yes)).map fun (o : Nat) => (o : Int)
end Go.Proofs.YthbmhoeaimdjmaaDoor
