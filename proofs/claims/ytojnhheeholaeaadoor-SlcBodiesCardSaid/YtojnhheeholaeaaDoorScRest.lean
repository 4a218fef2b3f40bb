/- Layer 14 as plain functions: two sides joined by rows, of which one alone asks: what holds of each function whatever is under way; they come to rest with the same. -/
import Derived.Test.YtojnhheeholaeaaDoorScSay
namespace Go.Proofs.YtojnhheeholaeaaDoor

abbrev Ms := List (Se × Bool)
/-- How many messages are no Acks. -/
def nonA (T : Ms) : Nat := (T.filter fun m => !m.2).length
theorem nonA_cons (m : Se × Bool) (T : Ms) : nonA (m :: T) = (if m.2 then 0 else 1) + nonA T := by
  obtain ⟨x, a⟩ := m
  cases a
  · simp [nonA]; omega
  · simp [nonA]
theorem nonA_append (T U : Ms) : nonA (T ++ U) = nonA T + nonA U := by simp [nonA]
theorem nonA_zero {T : Ms} (h : nonA T = 0) : ∀ m ∈ T, m.2 = true := by
  intro m hm
  unfold nonA at h
  have := List.eq_nil_of_length_eq_zero h
  rw [List.filter_eq_nil_iff] at this
  have := this m hm
  simpa using this
/-- What the one will have, when it has heard all of B and told nothing. -/
def Calm (c s : Se) (B : Ms) : Prop := (B = [] → c = s) ∧ ∀ B' y, B = B' ++ [(y, true)] → c = s ∨ ∃ z, (z, false) ∈ B ∧ z ≠ c

structure RInv (hc hs c : Se) (w : Bool) (s : Se) (T B : Ms) : Prop where
  fT : ∀ m ∈ T, m.1.fine = true
  fB : ∀ m ∈ B, m.1.fine = true ∧ m.1.l ≠ 3
  last : ∀ B' y a, B = B' ++ [(y, a)] → y = s
  ackB : hs.l ≠ 2 → ∀ y, (y, true) ∈ B → y.l = 0
  nonB : ∀ y, (y, false) ∈ B → y.l = 0 → hs.l ≠ 2
  tlast : ∀ T' x a, T = T' ++ [(x, a)] → x.l ≠ 3 → c = x
  calm : (∀ T' x, T ≠ T' ++ [(x, false)]) → Calm c s B
  tack : ∀ T' y, T = T' ++ [(y, true)] → (c = ⟨0, 0⟩ ∧ hs.l ≠ 2) ∨ ∀ m ∈ T, m.2 = true
  live : hc.l = 2 → nonA T + B.length ≤ if w then 1 else 0
  waits : w = true → B ≠ [] ∨ ∃ x, (x, false) ∈ T ∧ x ≠ s
  sok : s.fine = true ∧ s.l ≠ 3

theorem RInv.init (hc hs : Se) : RInv hc hs ⟨0, 0⟩ false ⟨0, 0⟩ [] [] where
  fT := fun m hm => by simp at hm
  fB := fun m hm => by simp at hm
  last := fun B' y a h => by simp at h
  ackB := fun _ y h => by simp at h
  nonB := fun y h => by simp at h
  tlast := fun T' x a h => by simp at h
  calm := fun _ => ⟨fun _ => rfl, fun B' y h => by simp at h⟩
  tack := fun T' y h => by simp at h
  live := fun _ => by simp [nonA]
  waits := fun h => by cases h
  sok := by decide
theorem RInv.rest {hc hs c s : Se} {w : Bool} (h : RInv hc hs c w s [] []) : c = s ∧ w = false := by
  refine ⟨(h.calm (fun T' x => by simp)).1 rfl, ?_⟩
  cases w
  · rfl
  · rcases h.waits rfl with h | ⟨x, h, _⟩
    · exact absurd rfl h
    · simp at h
theorem snoc_cons {α : Type} {b : α} {l l' : List α} {x : α} (h : l = l' ++ [x]) : b :: l = (b :: l') ++ [x] := by rw [h]; rfl
theorem snoc_inj {α : Type} {l l' : List α} {x y : α} (h : l ++ [x] = l' ++ [y]) : l = l' ∧ x = y := by
  have := List.append_inj' h rfl
  simpa using this
/-- A list is empty, or has a last one. -/
theorem snoc_of {α : Type} (l : List α) : l = [] ∨ ∃ l' x, l = l' ++ [x] := by
  rcases List.eq_nil_or_concat l with h | ⟨l', x, h⟩
  · exact .inl h
  · exact .inr ⟨l', x, by simpa using h⟩

section
variable {hc hs c s : Se} {w : Bool} {T B : Ms}
/-- The one hears what tells nothing. -/
theorem RInv.cliS {y : Se} {a : Bool} (h : RInv hc hs c w s T ((y, a) :: B)) (hq : y = c ∨ a = true) : RInv hc hs c false s T B where
  fT := h.fT
  fB := fun m hm => h.fB m (List.mem_cons_of_mem _ hm)
  last := fun B' y' a' e => h.last _ y' a' (snoc_cons e)
  ackB := fun h2 y' hy => h.ackB h2 y' (List.mem_cons_of_mem _ hy)
  nonB := fun y' hy => h.nonB y' (List.mem_cons_of_mem _ hy)
  tlast := h.tlast
  calm := fun hT => by
    have hk := h.calm hT
    refine ⟨fun e => ?_, fun B' y' e => ?_⟩
    · subst e
      cases a
      · rcases hq with hq | hq
        · rw [← hq]; exact h.last [] y false rfl
        · cases hq
      · rcases hk.2 [] y rfl with h1 | ⟨z, hz, _⟩
        · exact h1
        · simp at hz
    · rcases hk.2 _ y' (snoc_cons e) with h1 | ⟨z, hz, hn⟩
      · exact .inl h1
      · rcases List.mem_cons.1 hz with hz | hz
        · injection hz with e1 e2
          rcases hq with hq | hq
          · exact absurd (e1.trans hq) hn
          · rw [hq] at e2; cases e2
        · exact .inr ⟨z, hz, hn⟩
  tack := h.tack
  live := fun h2 => by
    have := h.live h2
    rw [List.length_cons] at this
    rw [if_neg (by decide)]
    split at this <;> omega
  waits := fun e => by cases e
  sok := h.sok
theorem ans_ack {x k : Se} (h : (ansS x k).2 = true) : (ansS x k).1 = x ∧ (x.l = 0 ∨ (k.l = 2 ∧ x.l ≠ 3)) := by
  unfold ansS at h ⊢
  split
  · next e => exact ⟨rfl, e⟩
  · next e =>
    rw [if_neg e] at h
    split at h <;> cases h
theorem ans_two {x k : Se} (hk : k.l = 2) (hx : x.l ≠ 3) : (ansS x k).2 = true := by
  unfold ansS
  rw [if_pos (.inr ⟨hk, hx⟩)]
/-- The one hears what it answers. -/
theorem RInv.cliT {y : Se} (h : RInv hc hs c w s T ((y, false) :: B)) (hcf : hc.fine = true) (hc3 : hc.l ≠ 3) (_ : y ≠ c) : RInv hc hs (ansS y hc).1 false s (T ++ [ansS y hc]) B where
  fT := fun m hm => by
    rcases List.mem_append.1 hm with hm | hm
    · exact h.fT m hm
    · rw [List.mem_singleton] at hm
      subst hm
      exact (ansS_ok (h.fB _ List.mem_cons_self).1 hcf hc3).1
  fB := fun m hm => h.fB m (List.mem_cons_of_mem _ hm)
  last := fun B' y' a' e => h.last _ y' a' (snoc_cons e)
  ackB := fun h2 y' hy => h.ackB h2 y' (List.mem_cons_of_mem _ hy)
  nonB := fun y' hy => h.nonB y' (List.mem_cons_of_mem _ hy)
  tlast := fun T' x a e _ => by
    have := (snoc_inj e).2
    rw [this]
  calm := fun hT => by
    have hy : y.fine = true ∧ y.l ≠ 3 := h.fB _ List.mem_cons_self
    have ha : (ansS y hc).2 = true := by
      cases hq : (ansS y hc).2
      · exact absurd (show T ++ [ansS y hc] = T ++ [((ansS y hc).1, false)] by rw [← hq]) (hT T _)
      · rfl
    obtain ⟨e1, h1⟩ := ans_ack ha
    rw [e1]
    by_cases h2 : hc.l = 2
    · have hl := h.live h2
      rw [List.length_cons] at hl
      have hB : B = [] := List.eq_nil_of_length_eq_zero (by split at hl <;> omega)
      subst hB
      exact ⟨fun _ => h.last [] y false rfl, fun B' y' e => by simp at e⟩
    · have hy0 : y.l = 0 := by omega
      have hn2 := h.nonB y List.mem_cons_self hy0
      have e0 := Se.none_of hy.1 hy0
      refine ⟨fun e => ?_, fun B' y' e => .inl ?_⟩
      · subst e
        exact h.last [] y false rfl
      · have hm : (y', true) ∈ B := by rw [e]; simp
        have h0 := h.ackB hn2 y' (List.mem_cons_of_mem _ hm)
        have e2 : y' = ⟨0, 0⟩ := Se.none_of (h.fB _ (List.mem_cons_of_mem _ hm)).1 h0
        rw [e0, ← e2]
        exact h.last _ y' true (snoc_cons e)
  tack := fun T' y' e => by
    have hy : y.fine = true ∧ y.l ≠ 3 := h.fB _ List.mem_cons_self
    have ha : (ansS y hc).2 = true := by
      have := (snoc_inj e).2
      rw [this]
    obtain ⟨e1, h1⟩ := ans_ack ha
    by_cases h2 : hc.l = 2
    · have hl := h.live h2
      rw [List.length_cons] at hl
      have hT := nonA_zero (T := T) (by split at hl <;> omega)
      refine .inr fun m hm => ?_
      rcases List.mem_append.1 hm with hm | hm
      · exact hT m hm
      · rw [List.mem_singleton] at hm
        subst hm
        exact ha
    · have hy0 : y.l = 0 := by omega
      refine .inl ⟨?_, h.nonB y List.mem_cons_self hy0⟩
      rw [e1]
      exact Se.none_of hy.1 hy0
  live := fun h2 => by
    have hl := h.live h2
    rw [List.length_cons] at hl
    have ha := ans_two h2 (h.fB _ List.mem_cons_self).2
    rw [nonA_append, nonA_cons, if_pos ha, if_neg (by decide)]
    have : nonA ([] : Ms) = 0 := rfl
    split at hl <;> omega
  waits := fun e => by cases e
  sok := h.sok
/-- The other one hears what tells nothing. -/
theorem RInv.srvS {x : Se} {a : Bool} (h : RInv hc hs c w s ((x, a) :: T) B) (hq : x = s ∨ a = true) : RInv hc hs c w s T B where
  fT := fun m hm => h.fT m (List.mem_cons_of_mem _ hm)
  fB := h.fB
  last := h.last
  ackB := h.ackB
  nonB := h.nonB
  tlast := fun T' x' a' e => h.tlast _ x' a' (snoc_cons e)
  calm := fun hT => by
    rcases snoc_of T with e | ⟨T', ⟨x', a'⟩, e⟩
    · subst e
      cases a
      · rcases hq with hq | hq
        · have hcx := h.tlast [] x false rfl (by rw [hq]; exact h.sok.2)
          rw [hcx, hq]
          exact ⟨fun _ => rfl, fun _ _ _ => .inl rfl⟩
        · cases hq
      · exact h.calm (fun T' z e => by
          have := snoc_inj (l := []) e
          simp at this)
    · cases a'
      · exact absurd e (hT T' x')
      · exact h.calm (fun T'' z e2 => by
          have := snoc_inj ((snoc_cons (b := (x, a)) e).symm.trans e2)
          simp at this)
  tack := fun T' y e => by
    rcases h.tack _ y (snoc_cons e) with h1 | h1
    · exact .inl h1
    · exact .inr fun m hm => h1 m (List.mem_cons_of_mem _ hm)
  live := fun h2 => by
    have := h.live h2
    rw [nonA_cons] at this
    omega
  waits := fun e => by
    rcases h.waits e with h1 | ⟨z, hz, hn⟩
    · exact .inl h1
    · rcases List.mem_cons.1 hz with hz | hz
      · injection hz with e1 e2
        rcases hq with hq | hq
        · exact absurd (e1.trans hq) hn
        · rw [hq] at e2; cases e2
      · exact .inr ⟨z, hz, hn⟩
  sok := h.sok
/-- The other one hears what it answers. -/
theorem RInv.srvT {x : Se} (h : RInv hc hs c w s ((x, false) :: T) B) (hsf : hs.fine = true) (hs3 : hs.l ≠ 3) (_ : x ≠ s) : RInv hc hs c w (ansS x hs).1 T (B ++ [ansS x hs]) where
  fT := fun m hm => h.fT m (List.mem_cons_of_mem _ hm)
  fB := fun m hm => by
    rcases List.mem_append.1 hm with hm | hm
    · exact h.fB m hm
    · rw [List.mem_singleton] at hm
      subst hm
      exact ansS_ok (h.fT _ List.mem_cons_self) hsf hs3
  last := fun B' y a e => by
    have := (snoc_inj e).2
    rw [this]
  ackB := fun h2 y hy => by
    rcases List.mem_append.1 hy with hy | hy
    · exact h.ackB h2 y hy
    · rw [List.mem_singleton] at hy
      obtain ⟨e1, h1⟩ := ans_ack (x := x) (k := hs) (by rw [← hy])
      have e2 : y = x := by rw [← e1, ← hy]
      rw [e2]
      omega
  nonB := fun y hy h0 => by
    rcases List.mem_append.1 hy with hy | hy
    · exact h.nonB y hy h0
    · rw [List.mem_singleton] at hy
      unfold ansS at hy
      split at hy
      · simp at hy
      · next e =>
        split at hy
        · next e2 => omega
        · injection hy with e1 _
          rw [← e1]
          omega
  tlast := fun T' x' a' e => h.tlast _ x' a' (snoc_cons e)
  calm := fun hT => by
    have hx : x.fine = true := h.fT _ List.mem_cons_self
    refine ⟨fun e => by simp at e, fun B' y e => .inl ?_⟩
    have ey := (snoc_inj e).2
    have ha : (ansS x hs).2 = true := by rw [ey]
    obtain ⟨e1, h1⟩ := ans_ack ha
    rw [e1]
    rcases snoc_of T with e | ⟨T', ⟨x', a'⟩, e⟩
    · subst e
      exact h.tlast [] x false rfl (by omega)
    · cases a'
      · exact absurd e (hT T' x')
      · rcases h.tack _ x' (snoc_cons e) with ⟨h2, h3⟩ | h2
        · have h0 : x.l = 0 := by omega
          rw [h2, Se.none_of hx h0]
        · have := h2 (x, false) List.mem_cons_self
          cases this
  tack := fun T' y e => by
    rcases h.tack _ y (snoc_cons e) with h1 | h1
    · exact .inl h1
    · exact .inr fun m hm => h1 m (List.mem_cons_of_mem _ hm)
  live := fun h2 => by
    have := h.live h2
    rw [nonA_cons, if_neg Bool.false_ne_true] at this
    rw [List.length_append, List.length_singleton]
    omega
  waits := fun _ => .inl (by simp)
  sok := ansS_ok (h.fT _ List.mem_cons_self) hsf hs3
/-- The one asks. -/
theorem RInv.ask {x : Se} (h : RInv hc hs c false s T B) (hx : x.fine = true) (hxc : x ≠ c) : RInv hc hs (if x.l = 3 then c else x) true s (T ++ [(x, false)]) B where
  fT := fun m hm => by
    rcases List.mem_append.1 hm with hm | hm
    · exact h.fT m hm
    · rw [List.mem_singleton] at hm
      subst hm
      exact hx
  fB := h.fB
  last := h.last
  ackB := h.ackB
  nonB := h.nonB
  tlast := fun T' x' a e h3 => by
    have := (snoc_inj e).2
    injection this with e1 _
    subst e1
    rw [if_neg h3]
  calm := fun hT => absurd rfl (hT T x)
  tack := fun T' y e => by
    have := (snoc_inj e).2
    simp at this
  live := fun h2 => by
    have := h.live h2
    rw [if_neg (by decide)] at this
    rw [nonA_append, nonA_cons, if_neg Bool.false_ne_true, if_pos rfl]
    have : nonA ([] : Ms) = 0 := rfl
    omega
  waits := fun _ => by
    by_cases hB : B = []
    · refine .inr ?_
      by_cases hxs : x = s
      · rcases snoc_of T with e | ⟨T', ⟨z, a⟩, e⟩
        · subst e
          exact absurd (hxs.trans ((h.calm (fun T' z => by simp)).1 hB).symm) hxc
        · cases a
          · refine ⟨z, by rw [e]; simp, fun hz => ?_⟩
            by_cases h3 : z.l = 3
            · exact h.sok.2 (hz ▸ h3)
            · have := h.tlast T' z false e h3
              exact hxc (hxs.trans (hz.symm.trans this.symm))
          · exact absurd (hxs.trans ((h.calm (fun T'' q e2 => by
              have := snoc_inj (e.symm.trans e2)
              simp at this)).1 hB).symm) hxc
      · exact ⟨x, by simp, hxs⟩
    · exact .inl hB
  sok := h.sok
end

/-- What is under way of the function at place i. -/
def msgs (i : Nat) (L : List Tr) : Ms := (L.filter fun t => decide (plF t.f = i)).map fun t => (t.x, t.ack)
theorem msgs_nil (i : Nat) : msgs i [] = [] := rfl
theorem msgs_cons (i : Nat) (t : Tr) (L : List Tr) : msgs i (t :: L) = if plF t.f = i then (t.x, t.ack) :: msgs i L else msgs i L := by
  unfold msgs
  rw [List.filter_cons]
  by_cases h : plF t.f = i
  · simp [h]
  · simp [h]
theorem msgs_append (i : Nat) (L M : List Tr) : msgs i (L ++ M) = msgs i L ++ msgs i M := by simp [msgs]
theorem msgs_one (i : Nat) (t : Tr) : msgs i [t] = if plF t.f = i then [(t.x, t.ack)] else [] := by
  rw [msgs_cons, msgs_nil]

/-- Two sides joined. -/
structure Joined (C S : Sd) (there back : List Tr) : Prop where
  rt : ∀ t ∈ there, t.right = true
  rb : ∀ t ∈ back, t.right = true
  inv : ∀ i, RInv (C i).holds (S i).holds (C i).has (C i).waits (S i).has (msgs i there) (msgs i back)
  sw : ∀ i, (S i).waits = false
  okC : ∀ i, (C i).Ok
  okS : ∀ i, (S i).Ok
def wt (t : Tr) : Nat := if t.ack then 1 else t.x.l.toNat + 2
def wsum (L : List Tr) : Nat := (L.map wt).sum
theorem wsum_cons (t : Tr) (L : List Tr) : wsum (t :: L) = wt t + wsum L := rfl
theorem wsum_append (L M : List Tr) : wsum (L ++ M) = wsum L + wsum M := by simp [wsum]
theorem wsum_len (L : List Tr) : L.length ≤ wsum L := by
  induction L with
  | nil => exact Nat.le_refl _
  | cons t L ih =>
    rw [wsum_cons, List.length_cons]
    have : 1 ≤ wt t := by unfold wt; split <;> omega
    omega
/-- What a side tells behind a triple. -/
def outs (r : Sd × Tr × Bool) : List Tr := if r.2.2 then [r.2.1] else []
theorem new_joined (l m : List Se) : Joined (newS l) (newS m) [] [] where
  rt := fun t ht => by simp at ht
  rb := fun t ht => by simp at ht
  inv := fun i => RInv.init _ _
  sw := fun _ => rfl
  okC := newS_ok l
  okS := newS_ok m
theorem right_f {t : Tr} (h : t.right = true) : isF t.f = true ∧ t.x.fine = true := by
  unfold Tr.right at h
  rw [Bool.and_eq_true] at h
  exact h
theorem set_ok {S : Sd} (h : ∀ i, (S i).Ok) (i : Nat) {c : Ch} (hc : c.Ok) : ∀ j, (S.set i c j).Ok := fun j => by
  unfold Sd.set
  split
  · exact hc
  · exact h j
theorem wt_told {t : Tr} (ht : t.x.fine = true) (ha : t.ack = false) {k : Se} (hk : k.fine = true) (hk3 : k.l ≠ 3) (f : Int) : wt ⟨f, (ansS t.x k).1, (ansS t.x k).2⟩ + 1 ≤ wt t := by
  have hl := Se.l_of ht
  have hkl := Se.l_of hk
  unfold wt
  rw [ha]
  unfold ansS
  simp only [Bool.false_eq_true, if_false]
  split
  · rw [if_pos rfl]
    omega
  · next e =>
    split
    · next e2 =>
      rw [if_neg (by decide)]
      show (0 : Int).toNat + 2 + 1 ≤ _
      omega
    · rw [if_neg Bool.false_ne_true]
      show k.l.toNat + 2 + 1 ≤ _
      omega
section
variable {C S : Sd} {there back : List Tr} {t : Tr}
theorem Joined.srv (h : Joined C S (t :: there) back) : Joined C (hearS S t).1 there (back ++ outs (hearS S t)) ∧ wsum there + wsum (back ++ outs (hearS S t)) + 1 ≤ wsum (t :: there) + wsum back := by
  have hr := h.rt t List.mem_cons_self
  obtain ⟨hf, hx⟩ := right_f hr
  have ht : ∀ u ∈ there, u.right = true := fun u hu => h.rt u (List.mem_cons_of_mem _ hu)
  by_cases hs : t.x = (S (plF t.f)).has ∨ t.ack = true
  · rw [hearS_still hr hs]
    have e : outs ((S.set (plF t.f) ⟨(S (plF t.f)).has, (S (plF t.f)).holds, false⟩), Tr.zero, false) = [] := rfl
    rw [e, List.append_nil]
    refine ⟨⟨ht, h.rb, fun i => ?_, fun i => ?_, h.okC, set_ok h.okS _ (h.okS _)⟩, ?_⟩
    · have hi := h.inv i
      rw [msgs_cons] at hi
      show RInv (C i).holds ((S.set _ _) i).holds (C i).has (C i).waits ((S.set _ _) i).has _ _
      by_cases e : plF t.f = i
      · subst e
        rw [if_pos rfl] at hi
        rw [Sd.set_self]
        exact hi.srvS hs
      · rw [if_neg e] at hi
        rw [Sd.set_ne _ _ (fun h => e h.symm)]
        exact hi
    · show ((S.set _ _) i).waits = false
      unfold Sd.set
      split
      · rfl
      · exact h.sw i
    · rw [wsum_cons]
      have : 1 ≤ wt t := by unfold wt; split <;> omega
      omega
  · rw [hearS_told hr hs]
    have ha : t.ack = false := by
      cases hq : t.ack
      · rfl
      · exact absurd (.inr hq) hs
    have ok := h.okS (plF t.f)
    have hu := ansS_ok hx ok.2.2.1 ok.2.2.2
    have e : outs ((S.set (plF t.f) ⟨(ansS t.x (S (plF t.f)).holds).1, (S (plF t.f)).holds, false⟩), (⟨t.f, (ansS t.x (S (plF t.f)).holds).1, (ansS t.x (S (plF t.f)).holds).2⟩ : Tr), true) = [⟨t.f, (ansS t.x (S (plF t.f)).holds).1, (ansS t.x (S (plF t.f)).holds).2⟩] := rfl
    rw [e]
    refine ⟨⟨ht, fun u hu' => ?_, fun i => ?_, fun i => ?_, h.okC, set_ok h.okS _ ⟨hu.1, hu.2, ok.2.2⟩⟩, ?_⟩
    · rcases List.mem_append.1 hu' with h1 | h1
      · exact h.rb u h1
      · rw [List.mem_singleton] at h1
        subst h1
        unfold Tr.right
        rw [hf, hu.1]
        rfl
    · have hi := h.inv i
      rw [msgs_cons] at hi
      rw [msgs_append, msgs_one]
      show RInv (C i).holds ((S.set _ _) i).holds (C i).has (C i).waits ((S.set _ _) i).has _ _
      by_cases e : plF t.f = i
      · subst e
        rw [if_pos rfl] at hi
        rw [Sd.set_self, if_pos rfl]
        rw [ha] at hi
        exact hi.srvT ok.2.2.1 ok.2.2.2 (fun e => hs (.inl e))
      · rw [if_neg e] at hi
        rw [Sd.set_ne _ _ (fun h => e h.symm), if_neg e, List.append_nil]
        exact hi
    · show ((S.set _ _) i).waits = false
      unfold Sd.set
      split
      · rfl
      · exact h.sw i
    · have := wt_told hx ha ok.2.2.1 ok.2.2.2 t.f
      rw [wsum_cons, wsum_append, wsum_cons]
      show wsum there + (wsum back + (_ + 0)) + 1 ≤ _
      omega
theorem Joined.cli (h : Joined C S there (t :: back)) : Joined (hearS C t).1 S (there ++ outs (hearS C t)) back ∧ wsum (there ++ outs (hearS C t)) + wsum back + 1 ≤ wsum there + wsum (t :: back) := by
  have hr := h.rb t List.mem_cons_self
  obtain ⟨hf, hx⟩ := right_f hr
  have ht : ∀ u ∈ back, u.right = true := fun u hu => h.rb u (List.mem_cons_of_mem _ hu)
  by_cases hs : t.x = (C (plF t.f)).has ∨ t.ack = true
  · rw [hearS_still hr hs]
    have e : outs ((C.set (plF t.f) ⟨(C (plF t.f)).has, (C (plF t.f)).holds, false⟩), Tr.zero, false) = [] := rfl
    rw [e, List.append_nil]
    refine ⟨⟨h.rt, ht, fun i => ?_, h.sw, set_ok h.okC _ (h.okC _), h.okS⟩, ?_⟩
    · have hi := h.inv i
      rw [msgs_cons] at hi
      show RInv ((C.set _ _) i).holds (S i).holds ((C.set _ _) i).has ((C.set _ _) i).waits (S i).has _ _
      by_cases e : plF t.f = i
      · subst e
        rw [if_pos rfl] at hi
        rw [Sd.set_self]
        exact hi.cliS hs
      · rw [if_neg e] at hi
        rw [Sd.set_ne _ _ (fun h => e h.symm)]
        exact hi
    · rw [wsum_cons]
      have : 1 ≤ wt t := by unfold wt; split <;> omega
      omega
  · rw [hearS_told hr hs]
    have ha : t.ack = false := by
      cases hq : t.ack
      · rfl
      · exact absurd (.inr hq) hs
    have ok := h.okC (plF t.f)
    have hu := ansS_ok hx ok.2.2.1 ok.2.2.2
    have e : outs ((C.set (plF t.f) ⟨(ansS t.x (C (plF t.f)).holds).1, (C (plF t.f)).holds, false⟩), (⟨t.f, (ansS t.x (C (plF t.f)).holds).1, (ansS t.x (C (plF t.f)).holds).2⟩ : Tr), true) = [⟨t.f, (ansS t.x (C (plF t.f)).holds).1, (ansS t.x (C (plF t.f)).holds).2⟩] := rfl
    rw [e]
    refine ⟨⟨fun u hu' => ?_, ht, fun i => ?_, h.sw, set_ok h.okC _ ⟨hu.1, hu.2, ok.2.2⟩, h.okS⟩, ?_⟩
    · rcases List.mem_append.1 hu' with h1 | h1
      · exact h.rt u h1
      · rw [List.mem_singleton] at h1
        subst h1
        unfold Tr.right
        rw [hf, hu.1]
        rfl
    · have hi := h.inv i
      rw [msgs_cons] at hi
      rw [msgs_append, msgs_one]
      show RInv ((C.set _ _) i).holds (S i).holds ((C.set _ _) i).has ((C.set _ _) i).waits (S i).has _ _
      by_cases e : plF t.f = i
      · subst e
        rw [if_pos rfl] at hi
        rw [Sd.set_self, if_pos rfl]
        rw [ha] at hi
        exact hi.cliT ok.2.2.1 ok.2.2.2 (fun e => hs (.inl e))
      · rw [if_neg e] at hi
        rw [Sd.set_ne _ _ (fun h => e h.symm), if_neg e, List.append_nil]
        exact hi
    · have := wt_told hx ha ok.2.2.1 ok.2.2.2 t.f
      rw [wsum_cons, wsum_append, wsum_cons]
      show wsum there + (_ + 0) + wsum back + 1 ≤ _
      omega
theorem Joined.ask (h : Joined C S there back) {f : Int} {x : Se} (hn : askN C f x = 0) : Joined (C.set (plF f) ((C (plF f)).asked x)) S (there ++ [⟨f, x, false⟩]) back ∧ wsum (there ++ [⟨f, x, false⟩]) ≤ wsum there + 5 := by
  have hf : isF f = true := by
    cases hq : isF f
    · unfold askN at hn
      rw [if_pos hq] at hn
      omega
    · rfl
  have hx : ¬ (x.fine = false ∨ x.l = 0) := by
    intro hq
    unfold askN at hn
    rw [if_neg (by rw [hf]; decide), if_pos hq] at hn
    omega
  have hxf : x.fine = true := by
    cases hq : x.fine
    · exact absurd (.inl hq) hx
    · rfl
  have hc : (C (plF f)).waits = false ∧ x ≠ (C (plF f)).has := by
    unfold askN at hn
    rw [if_neg (by rw [hf]; decide), if_neg hx] at hn
    unfold Ch.askN at hn
    split at hn
    · omega
    · next e =>
      split at hn
      · omega
      · next e2 => exact ⟨by simpa using e, e2⟩
  refine ⟨⟨fun u hu => ?_, h.rb, fun i => ?_, h.sw, set_ok h.okC _ (Ch.asked_ok (h.okC _) hxf), h.okS⟩, ?_⟩
  · rcases List.mem_append.1 hu with h1 | h1
    · exact h.rt u h1
    · rw [List.mem_singleton] at h1
      subst h1
      unfold Tr.right
      rw [hf, hxf]
      rfl
  · have hi := h.inv i
    rw [msgs_append, msgs_one]
    by_cases e : plF f = i
    · subst e
      rw [Sd.set_self, if_pos rfl]
      rw [hc.1] at hi
      exact hi.ask hxf hc.2
    · rw [Sd.set_ne _ _ (fun h => e h.symm), if_neg e, List.append_nil]
      exact hi
  · have hl := Se.l_of hxf
    rw [wsum_append, wsum_cons]
    show wsum there + (wt _ + 0) ≤ _
    unfold wt
    simp only [Bool.false_eq_true, if_false]
    omega
theorem Joined.rest (h : Joined C S [] []) : (∀ f, hasS C f = hasS S f) ∧ waitsS C = 0 ∧ waitsS S = 0 := by
  have key : ∀ i, (C i).has = (S i).has ∧ (C i).waits = false := fun i => (h.inv i).rest
  refine ⟨fun f => ?_, waits_none (fun i _ => (key i).2), waits_none (fun i _ => h.sw i)⟩
  unfold hasS
  split
  · exact (key _).1
  · rfl
end
end Go.Proofs.YtojnhheeholaeaaDoor
