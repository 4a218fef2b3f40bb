/- Layer 9, the document's passes as plain functions: all tokens with their places, cut off the front; what is heard; which of the heard are left out; what stays. -/
import Derived.Test.YtelmfncdamakfaaCleanSay
import Derived.Test.YtelmfncdamakfaaText
namespace Go.Proofs.Ytelmfncdamakfaa

/-- All tokens with their places, as the document cuts them. -/
theorem pend_ends : ∀ (l r : List UInt8) (m : Ms) (p : Nat), Pend r m →
    (next (r ++ l) = .none ∧ ends9 m p l = []) ∨ (∃ t n, next (r ++ l) = some (t, r.length + n) ∧ 0 < n ∧ n ≤ l.length ∧ ends9 m p l = (t, p + n - 1) :: ends9 .zero (p + n) (l.drop n))
  | [], r, m, p, h => .inl ⟨by rw [List.append_nil]; exact h.none, rfl⟩
  | c :: l, r, m, p, h => by
    rcases h.step c with ⟨t, h1, h2⟩ | ⟨m', h1, h2⟩
    · refine .inr ⟨t, 1, h2 l, by omega, by simp, ?_⟩
      simp [ends9, h1]
    · have e : ends9 m p (c :: l) = ends9 m' (p + 1) l := by simp [ends9, h1]
      rw [e]
      rcases pend_ends l (r ++ [c]) m' (p + 1) h2 with ⟨h3, h4⟩ | ⟨t, n, h3, h4, h5, h6⟩
      · rw [List.append_assoc, List.singleton_append] at h3
        exact .inl ⟨h3, h4⟩
      · rw [List.append_assoc, List.singleton_append, List.length_append, List.length_singleton] at h3
        refine .inr ⟨t, n + 1, by rw [h3]; congr 2; omega, by omega, by simp; omega, ?_⟩
        rw [h6, List.drop_succ_cons]
        congr 2
        · congr 1
          omega
        · omega
theorem ends_none {s : List UInt8} (p : Nat) (h : next s = .none) : ends9 .zero p s = [] := by
  rcases pend_ends s [] .zero p (.inl ⟨rfl, rfl⟩) with ⟨_, h1⟩ | ⟨t, n, h1, _⟩
  · exact h1
  · rw [List.nil_append, h] at h1
    cases h1
theorem ends_some {s : List UInt8} {t : Tk} {n : Nat} (p : Nat) (h : next s = some (t, n)) : 0 < n ∧ n ≤ s.length ∧ ends9 .zero p s = (t, p + n - 1) :: ends9 .zero (p + n) (s.drop n) := by
  rcases pend_ends s [] .zero p (.inl ⟨rfl, rfl⟩) with ⟨h1, _⟩ | ⟨t', n', h1, h2, h3, h4⟩
  · rw [List.nil_append, h] at h1
    cases h1
  · rw [List.nil_append, h, List.length_nil, Nat.zero_add] at h1
    injection h1 with h1
    injection h1 with ha hb
    subst ha hb
    exact ⟨h2, h3, h4⟩
theorem ends_length : ∀ (l : List UInt8) (m : Ms) (p : Nat), (ends9 m p l).length ≤ l.length
  | [], _, _ => by simp [ends9]
  | c :: l, m, p => by
    have h1 := ends_length l (feed m c).1 (p + 1)
    have h2 : (feed m c).2.toList.length ≤ 1 := by cases (feed m c).2 <;> simp
    simp only [ends9, List.length_append, List.length_map, List.length_cons]
    omega

/-- Places that go up, from a on, below N. -/
def Up : Nat → Nat → List (Tk × Nat) → Prop
  | _, _, [] => True
  | a, N, (_, e) :: r => a ≤ e ∧ e < N ∧ Up (e + 1) N r
theorem Up.mono : ∀ {l : List (Tk × Nat)} {a b N : Nat}, Up a N l → b ≤ a → Up b N l
  | [], _, _, _, _, _ => trivial
  | (_, _) :: _, _, _, _, ⟨h1, h2⟩, h => ⟨Nat.le_trans h h1, h2⟩
theorem ends_up : ∀ (l : List UInt8) (m : Ms) (p : Nat), Up p (p + l.length) (ends9 m p l)
  | [], _, _ => trivial
  | c :: l, m, p => by
    have h1 := ends_up l (feed m c).1 (p + 1)
    rw [show p + 1 + l.length = p + (c :: l).length from by simp; omega] at h1
    simp only [ends9]
    cases (feed m c).2 with
    | none => exact h1.mono (by omega)
    | some t => exact ⟨Nat.le_refl _, by simp, h1⟩
/-- Data's codes are bytes. -/
def Bytes9 (l : List (Tk × Nat)) : Prop := ∀ q ∈ l, isData q.1 = true → ∃ x : UInt8, q.1.code = (x.toNat : Int)
theorem ends_bytes : ∀ (l : List UInt8) (m : Ms) (p : Nat), Bytes9 (ends9 m p l)
  | [], _, _ => fun q h => by cases h
  | c :: l, m, p => by
    have h1 := ends_bytes l (feed m c).1 (p + 1)
    intro q hq hd
    simp only [ends9, List.mem_append, List.mem_map, Option.mem_toList] at hq
    rcases hq with ⟨t, ht, rfl⟩ | hq
    · simp only [isData, decide_eq_true_eq] at hd
      unfold feed at ht
      split at ht
      all_goals
        repeat' split at ht
        all_goals first
          | (cases ht; done)
          | (injection ht with ht; subst ht; first | exact ⟨255, rfl⟩ | exact ⟨c, rfl⟩ | (simp at hd; done))
    · exact h1 q hq hd

/-- What is heard: which token, its byte, whether that came raw. -/
def heard9 (l : List Bt) : Nat → Bool → Nat → List (Tk × Nat) → List (Nat × UInt8 × Bool)
  | _, _, _, [] => []
  | last, deaf, i, (t, e) :: r =>
    let d := (deaf || anyIn l last (e + 1)) && !isDM t
    (if isData t && !d then [(i, b8 t.code, rawAt l e)] else []) ++ heard9 l (e + 1) d (i + 1) r
/-- Of each token whether it stays. -/
def flags9 (l : List Bt) : Nat → Bool → Bool → List (Tk × Nat) → List Bool
  | _, _, _, [] => []
  | last, deaf, bh, (t, e) :: r =>
    let d := (deaf || anyIn l last (e + 1)) && !isDM t
    stays9 d bh (rawAt l e) t :: flags9 l (e + 1) d (behind9 d bh (rawAt l e) t) r
/-- .. as the heard ones tell it, one behind the other. -/
def setGo : Bool → List (Nat × UInt8 × Bool) → List Bool → List Bool
  | _, [], S => S
  | bh, (i, x, r) :: h, S => setGo (decide (x.toNat = 13) && !r) h (S.set i (!(bh && decide (x.toNat = 0) && !r)))
def gather9 : List Bool → List (Tk × Nat) → List (Tk × Nat)
  | b :: bs, q :: r => (if b then [q] else []) ++ gather9 bs r
  | _, _ => []
theorem b8_code {t : Tk} {x : UInt8} (h : t.code = (x.toNat : Int)) : b8 t.code = x := by
  rw [h]
  apply UInt8.toNat_inj.1
  have := x.toNat_lt
  rw [b8_nat (by omega) (by omega)]
  simp
theorem setGo_heard (l : List Bt) : ∀ (toks : List (Tk × Nat)), Bytes9 toks → ∀ (last : Nat) (deaf bh : Bool) (i : Nat) (pre : List Bool), pre.length = i →
    setGo bh (heard9 l last deaf i toks) (pre ++ toks.map (fun q => !isData q.1)) = pre ++ flags9 l last deaf bh toks
  | [], _, last, deaf, bh, i, pre, hi => rfl
  | (t, e) :: r, hB, last, deaf, bh, i, pre, hi => by
    have hB' : Bytes9 r := fun q hq => hB q (List.mem_cons_of_mem _ hq)
    have ih := setGo_heard l r hB' (e + 1) ((deaf || anyIn l last (e + 1)) && !isDM t)
    obtain ⟨d, hd⟩ : ∃ d, d = ((deaf || anyIn l last (e + 1)) && !isDM t) := ⟨_, rfl⟩
    simp only [heard9, flags9, List.map_cons]
    rw [← hd] at ih ⊢
    cases hD : isData t with
    | false =>
      simp only [Bool.false_and, Bool.false_eq_true, if_false, List.nil_append, Bool.not_false]
      have := ih bh (i + 1) (pre ++ [true]) (by simp [hi])
      simp only [List.append_assoc, List.singleton_append] at this
      rw [this]
      simp [stays9, behind9, hD]
    | true =>
      obtain ⟨x, hx⟩ := hB (t, e) List.mem_cons_self hD
      simp only at hx
      cases d with
      | true =>
        simp only [Bool.not_true, Bool.and_false, Bool.false_eq_true, if_false, List.nil_append]
        have := ih bh (i + 1) (pre ++ [false]) (by simp [hi])
        simp only [List.append_assoc, List.singleton_append] at this
        rw [this]
        simp [stays9, behind9, hD]
      | false =>
        simp only [Bool.not_false, Bool.and_self, if_true, List.singleton_append, setGo, Bool.not_true]
        rw [b8_code hx]
        have e1 : (pre ++ false :: r.map (fun q => !isData q.1)).set i (!(bh && decide (x.toNat = 0) && !rawAt l e)) = (pre ++ [!(bh && decide (x.toNat = 0) && !rawAt l e)]) ++ r.map (fun q => !isData q.1) := by
          subst hi
          rw [List.set_append_right _ _ (Nat.le_refl _), Nat.sub_self]
          simp
        rw [e1, ih _ (i + 1) _ (by simp [hi])]
        have e2 : decide (t.code = 0) = decide (x.toNat = 0) := by rw [hx]; simp
        have e3 : decide (t.code = 13) = decide (x.toNat = 13) := by rw [hx, Bool.eq_iff_iff]; simp; omega
        simp [stays9, behind9, hD, e2, e3]
theorem gather_flags (l : List Bt) : ∀ (toks : List (Tk × Nat)) (last : Nat) (deaf bh : Bool), gather9 (flags9 l last deaf bh toks) toks = clean9 l last deaf bh toks
  | [], _, _, _ => rfl
  | (t, e) :: r, last, deaf, bh => by
    simp only [flags9, gather9, clean9]
    rw [gather_flags l r]
theorem heard_length (l : List Bt) : ∀ (toks : List (Tk × Nat)) (last : Nat) (deaf : Bool) (i : Nat), (heard9 l last deaf i toks).length ≤ toks.length
  | [], _, _, _ => by simp [heard9]
  | (t, e) :: r, last, deaf, i => by
    have := heard_length l r (e + 1) ((deaf || anyIn l last (e + 1)) && !isDM t) (i + 1)
    simp only [heard9, List.length_append, List.length_cons]
    split <;> simp <;> omega
theorem heard_lt (l : List Bt) : ∀ (toks : List (Tk × Nat)) (last : Nat) (deaf : Bool) (i : Nat), ∀ q ∈ heard9 l last deaf i toks, i ≤ q.1 ∧ q.1 < i + toks.length
  | [], _, _, _ => fun q h => by cases h
  | (t, e) :: r, last, deaf, i => by
    have := heard_lt l r (e + 1) ((deaf || anyIn l last (e + 1)) && !isDM t) (i + 1)
    intro q hq
    simp only [heard9, List.mem_append, List.length_cons] at hq ⊢
    rcases hq with hq | hq
    · split at hq
      · obtain rfl := List.mem_singleton.1 hq
        exact ⟨Nat.le_refl _, by omega⟩
      · cases hq
    · have := this q hq
      omega
theorem setGo_length : ∀ (h : List (Nat × UInt8 × Bool)) (bh : Bool) (S : List Bool), (setGo bh h S).length = S.length
  | [], _, _ => rfl
  | (i, x, r) :: h, bh, S => by
    simp only [setGo]
    rw [setGo_length h, List.length_set]
theorem gather_le : ∀ (bs : List Bool) (ts : List (Tk × Nat)), (gather9 bs ts).length ≤ ts.length
  | [], _ => by simp [gather9]
  | _ :: _, [] => by simp [gather9]
  | b :: bs, q :: r => by
    have := gather_le bs r
    simp only [gather9, List.length_append, List.length_cons]
    split <;> simp <;> omega
/-- Data's bytes. -/
def data9 (ts : List Tk) : List UInt8 := (ts.filter isData).map fun t => b8 t.code
theorem data9_snoc (ts : List Tk) (t : Tk) : data9 (ts ++ [t]) = data9 ts ++ (if isData t then [b8 t.code] else []) := by
  unfold data9
  rw [List.filter_append, List.map_append]
  cases h : isData t <;> simp [h]
theorem b8_of (x : UInt8) : b8 (x.toNat : Int) = x := by
  apply UInt8.toNat_inj.1
  have := x.toNat_lt
  rw [b8_nat (by omega) (by omega)]
  simp
theorem data9_le (ts : List Tk) : (data9 ts).length ≤ ts.length := by
  unfold data9
  rw [List.length_map]
  exact List.length_filter_le _ _
theorem at_drop {α : Type} {l : List α} {k : Nat} {x : α} (h : l[k]? = some x) : l.drop k = x :: l.drop (k + 1) := by
  obtain ⟨hk, e⟩ := List.getElem?_eq_some_iff.1 h
  rw [List.drop_eq_getElem_cons hk, e]
theorem feeds9_length : ∀ (l : List Bt) (k : Cl) (p : Nat), (feeds9 k p l).1.length ≤ l.length
  | [], _, _ => by simp [feeds9]
  | x :: l, k, p => by
    have h1 := feeds9_length l (feed9 k x).1 (p + 1)
    have h2 : (feed9 k x).2.toList.length ≤ 1 := by cases (feed9 k x).2 <;> simp
    simp only [feeds9, List.length_append, List.length_map, List.length_cons]
    omega
theorem feed_bytes (m : Ms) (c : UInt8) : ∀ t, (feed m c).2 = some t → isData t = true → ∃ x : UInt8, t.code = (x.toNat : Int) := by
  intro t ht hd
  simp only [isData, decide_eq_true_eq] at hd
  unfold feed at ht
  split at ht
  all_goals
    repeat' split at ht
    all_goals first
      | (cases ht; done)
      | (injection ht with ht; subst ht; first | exact ⟨255, rfl⟩ | exact ⟨c, rfl⟩ | (simp at hd; done))
theorem feeds9_bytes : ∀ (l : List Bt) (k : Cl) (p : Nat), ∀ t ∈ (feeds9 k p l).1.map Prod.fst, isData t = true → ∃ x : UInt8, t.code = (x.toNat : Int)
  | [], _, _ => fun t h => by cases h
  | x :: l, k, p => by
    have h1 := feeds9_bytes l (feed9 k x).1 (p + 1)
    intro t ht hd
    simp only [feeds9, List.map_append, List.mem_append] at ht
    rcases ht with ht | ht
    · have ht2 : (feed9 k x).2 = some t := by
        cases h : (feed9 k x).2 with
        | none => rw [h] at ht; simp at ht
        | some t' => rw [h] at ht; simp at ht; rw [ht]
      unfold feed9 at ht2
      have hf := feed_bytes k.m x.c
      cases h : feed k.m x.c with
      | mk m o =>
        rw [h] at ht2 hf
        cases o with
        | none => cases ht2
        | some t' =>
          simp only at ht2
          split at ht2
          · injection ht2 with ht2
            subst ht2
            exact hf _ rfl hd
          · cases ht2
    · exact h1 t ht hd
end Go.Proofs.Ytelmfncdamakfaa
